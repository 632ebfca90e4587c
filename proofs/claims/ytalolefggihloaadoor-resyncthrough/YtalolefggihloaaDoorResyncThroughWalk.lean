/-
  lamplightlaw05.ResyncThrough: whatever it is asked, true; nothing that was there is turned.
-/
import Derived.Test.YtalolefggihloaaDoorResyncCountsWalk
import Derived.Test.YtalolefggihloaaDoorResyncEq
namespace Go.Proofs.YtalolefggihloaaDoor
set_option linter.unusedVariables false
set_option linter.unusedSimpArgs false
open Go.RowKit

/-- Frames as they come in. -/
def FramesAt (w : World) (P : Option Addr) (fs : List Fr) : Prop :=
  ∀ k F, fs[k]? = some F → ∃ b o g A c, P = some ⟨b, o, none⟩ ∧ b < w.heap.size ∧ (w.cell? ⟨b, o + k * 6, none⟩ = some (.int .u8 (F.a : Int)) ∧ w.cell? ⟨b, o + k * 6 + 1, none⟩ = some (.int .u8 (F.k : Int)) ∧ w.cell? ⟨b, o + k * 6 + 2, none⟩ = some (.int .u8 (F.s : Int)) ∧ w.cell? ⟨b, o + k * 6 + 3, none⟩ = some (.int .u8 (F.q : Int)) ∧ w.cell? ⟨b, o + k * 6 + 4, none⟩ = some (.int .u8 (F.c : Int)) ∧ w.cell? ⟨b, o + k * 6 + 5, none⟩ = some (.slice A F.b.length c)) ∧ F.Fits ∧ Holds w g A (bcs F.b)

/-- Bytes without a 7E. -/
def flt (l : List UInt8) (k : Nat) : List UInt8 := (l.take k).filter (fun b => b != 126)
theorem flt_yes {l : List UInt8} {k : Nat} (hk : k < l.length) (h : l[k] ≠ 126) : flt l (k + 1) = flt l k ++ [l[k]] := by
  unfold flt
  rw [List.take_succ_eq_append_getElem hk, List.filter_append]
  simp [h]
theorem flt_no {l : List UInt8} {k : Nat} (hk : k < l.length) (h : l[k] = 126) : flt l (k + 1) = flt l k := by
  unfold flt
  rw [List.take_succ_eq_append_getElem hk, List.filter_append]
  simp [h]
theorem flt_plain (l : List UInt8) (k : Nat) : ∀ b ∈ flt l k, b ≠ 126 := by
  intro b hb
  unfold flt at hb
  have := (List.mem_filter.1 hb).2
  simpa using this
theorem flt_le (l : List UInt8) (k : Nat) : (flt l k).length ≤ k := by
  unfold flt
  have h1 := List.length_filter_le (fun b => b != 126) (l.take k)
  rw [List.length_take] at h1
  omega

/-- The state of the second loop: a decoder of one's own, what was said, the counts as they were. -/
structure Th (w : World) (D : Nat) (d : Dc) (N : Nat) (gs : Nat) (As : Option Addr) (said : List UInt8) (E : Nat) (f0 : Nat → Nat) (x : World) : Prop where
  sd : Sd w D d N x
  holds : Holds x gs As (bcs said)
  ne : 0 < said.length → gs ≠ D
  er : Er x E f0
theorem Th.step {w x y : World} {D N gs E : Nat} {d : Dc} {As : Option Addr} {said : List UInt8} {f0 : Nat → Nat} (h : Th w D d N gs As said E f0 x) (hb : Below x.heap.size x y) : Th w D d N gs As said E f0 y :=
  ⟨h.sd.step hb, h.holds.keep (Ch.of_below hb) (by simp), h.ne, h.er.keep (Ch.of_below hb) (by simp)⟩
theorem Th.turn {w x y : World} {D N M gs E : Nat} {d d' : Dc} {As : Option Addr} {said : List UInt8} {f0 : Nat → Nat} (h : Th w D d N gs As said E f0 x) (ht : Tab y) (hd : Dec y D d' M) (hc : Ch [D] x y) : Th w D d' M gs As said E f0 y :=
  ⟨h.sd.turn ht hd hc, h.holds.keep hc (fun hp => by rw [bcs_length] at hp; simpa using h.ne hp), h.ne, h.er.keep hc (by simpa using h.er.ne h.sd.dec)⟩
theorem Th.mono {w x : World} {D N M gs E : Nat} {d : Dc} {As : Option Addr} {said : List UInt8} {f0 : Nat → Nat} (h : Th w D d N gs As said E f0 x) (hM : N ≤ M) : Th w D d M gs As said E f0 x :=
  ⟨⟨h.sd.tab, h.sd.dec.mono hM, h.sd.below, h.sd.le⟩, h.holds, h.ne, h.er⟩

/-- What is known while a frame that was told, and one that came in, are looked at. -/
structure Fo (w : World) (D : Nat) (d : Dc) (N gs : Nat) (As : Option Addr) (said : List UInt8) (E : Nat) (f0 : Nat → Nat) (g2 : Nat) (B2 : Option Addr) (b2 h2 b o k gF : Nat) (AF : Option Addr) (cF : Nat) (F : Fr) (x : World) : Prop where
  th : Th w D d N gs As said E f0 x
  f1 : Fa g2 0 B2 b2 h2 F x
  lt : b < w.heap.size
  was : (w.cell? ⟨b, o + k * 6, none⟩ = some (.int .u8 (F.a : Int)) ∧ w.cell? ⟨b, o + k * 6 + 1, none⟩ = some (.int .u8 (F.k : Int)) ∧ w.cell? ⟨b, o + k * 6 + 2, none⟩ = some (.int .u8 (F.s : Int)) ∧ w.cell? ⟨b, o + k * 6 + 3, none⟩ = some (.int .u8 (F.q : Int)) ∧ w.cell? ⟨b, o + k * 6 + 4, none⟩ = some (.int .u8 (F.c : Int)) ∧ w.cell? ⟨b, o + k * 6 + 5, none⟩ = some (.slice AF F.b.length cF))
  hold : Holds w gF AF (bcs F.b)
theorem Fo.step {w x y : World} {D N gs E g2 b2 h2 b o k gF cF : Nat} {d : Dc} {As B2 AF : Option Addr} {said : List UInt8} {f0 : Nat → Nat} {F : Fr} (h : Fo w D d N gs As said E f0 g2 B2 b2 h2 b o k gF AF cF F x) (hb : Below x.heap.size x y) : Fo w D d N gs As said E f0 g2 B2 b2 h2 b o k gF AF cF F y :=
  ⟨h.th.step hb, h.f1.step hb, h.lt, h.was, h.hold⟩
theorem Fo.cells {w x : World} {D N gs E g2 b2 h2 b o k gF cF : Nat} {d : Dc} {As B2 AF : Option Addr} {said : List UInt8} {f0 : Nat → Nat} {F : Fr} (h : Fo w D d N gs As said E f0 g2 B2 b2 h2 b o k gF AF cF F x) : (x.cell? ⟨g2, 0, none⟩ = some (.int .u8 (F.a : Int)) ∧ x.cell? ⟨g2, 1, none⟩ = some (.int .u8 (F.k : Int)) ∧ x.cell? ⟨g2, 2, none⟩ = some (.int .u8 (F.s : Int)) ∧ x.cell? ⟨g2, 3, none⟩ = some (.int .u8 (F.q : Int)) ∧ x.cell? ⟨g2, 4, none⟩ = some (.int .u8 (F.c : Int)) ∧ x.cell? ⟨g2, 5, none⟩ = some (.slice B2 F.b.length b2)) ∧ (x.cell? ⟨b, o + k * 6, none⟩ = some (.int .u8 (F.a : Int)) ∧ x.cell? ⟨b, o + k * 6 + 1, none⟩ = some (.int .u8 (F.k : Int)) ∧ x.cell? ⟨b, o + k * 6 + 2, none⟩ = some (.int .u8 (F.s : Int)) ∧ x.cell? ⟨b, o + k * 6 + 3, none⟩ = some (.int .u8 (F.q : Int)) ∧ x.cell? ⟨b, o + k * 6 + 4, none⟩ = some (.int .u8 (F.c : Int)) ∧ x.cell? ⟨b, o + k * 6 + 5, none⟩ = some (.slice AF F.b.length cF)) := by
  obtain ⟨p0, p1, p2, p3, p4, p5⟩ := h.f1.cells
  obtain ⟨q0, q1, q2, q3, q4, q5⟩ := h.was
  have hbb := h.th.sd.below
  exact ⟨⟨p0, p1, p2, p3, p4, p5⟩, (hbb.cell (p := ⟨b, o + k * 6, none⟩) h.lt).trans q0, (hbb.cell (p := ⟨b, o + k * 6 + 1, none⟩) h.lt).trans q1, (hbb.cell (p := ⟨b, o + k * 6 + 2, none⟩) h.lt).trans q2, (hbb.cell (p := ⟨b, o + k * 6 + 3, none⟩) h.lt).trans q3, (hbb.cell (p := ⟨b, o + k * 6 + 4, none⟩) h.lt).trans q4, (hbb.cell (p := ⟨b, o + k * 6 + 5, none⟩) h.lt).trans q5⟩
theorem Fo.arg {w x : World} {D N gs E g2 b2 h2 b o k gF cF : Nat} {d : Dc} {As B2 AF : Option Addr} {said : List UInt8} {f0 : Nat → Nat} {F : Fr} (h : Fo w D d N gs As said E f0 g2 B2 b2 h2 b o k gF AF cF F x) : Holds x gF AF (bcs F.b) := h.hold.keep (Ch.of_below h.th.sd.below) (by simp)

set_option maxHeartbeats 8000000 in
set_option maxRecDepth 100000 in
theorem resyncthrough_walk (g : Nat) (A : Option Addr) (l0 : List UInt8) (len cap : Nat) (P : Option Addr) (n cp : Nat) (fs : List Fr) (gm : Nat) (Am : Option Addr) (lm : List UInt8) (lenm capm : Nat) (w : World) (ht : Tab w) (h : Holds w g A (bcs l0)) (hlen : l0.length = len) (hcap : len ≤ cap) (hmx : cap ≤ 9223372036854775807)
    (hp : FramesAt w P fs) (hpl : fs.length = n) (hpc : n ≤ cp) (hpm : cp ≤ 9223372036854775807) (hm : Holds w gm Am (bcs lm)) (hmlen : lm.length = lenm) (hmcap : lenm ≤ capm) (hmmx : capm ≤ 9223372036854775807) :
    Calls Tryd.prog 5 #[.slice A len cap, .slice P n cp, .slice Am lenm capm] w fun e w' => e = .returned (.bool true) ∧ Below w.heap.size w w' := by
  obtain ⟨i0, hi, hz0', hz1, hz2⟩ := info_parts info_byte
  obtain ⟨m, hm3, hml, hmin⟩ := min_of len 2000 2000 rfl
  have HTB := Lib.hid ht
  have HH := Lib.hid h
  have HL := Lib.hid hlen
  have HFS := Lib.hid hp
  have HFL := Lib.hid hpl
  have HMM := Lib.hid hm
  have HML := Lib.hid hmlen
  clear h hlen ht hp hpl hm hmlen
  go_enter Tryd.func5, Tryd.ntmps5
  go_wp2_with fail
  refine (shown_any w HTB.out).mono ?_
  rintro e x1 ⟨rfl, hb1⟩
  have HT1 := Lib.hid (HTB.out.keep (Ch.of_below hb1) (by simp))
  have HW1 := Lib.hid hb1
  clear HTB hb1
  obtain ⟨zs, hzs, hz, hzn, hz0⟩ := zero_ex
  have HZ := Lib.hid hzs
  clear hzs
  go_upto_region 3 with fail
  have H2 := Lib.hid (Sd.start HT1.out HW1.out HZ.out)
  clear hz hzn hz0 HZ HT1 HW1
  generalize x1.alloc (.cells zs 30) = x2 at *
  generalize x1.heap.size = D at *
  have hmc : m ≤ cap := by omega
  have HLL : Hid ((l0.take m).length = m) := by show _ = _; rw [List.length_take, HL.out]; omega
  have HH2 : Hid (Holds x2 g A (bcs (l0.take m))) := by show Holds _ _ _ _; rw [bcs_take]; exact (HH.out.take m).keep (Ch.of_below H2.out.below) (by simp)
  have HGL : Hid (0 < m → g < w.heap.size) := fun hp => (HH.out (by rw [bcs_length, HL.out]; omega)).1
  generalize l0.take m = l at *
  clear HH HL
  go_wp2_with fail
  refine (feed_on (l := l) H2.out.tab H2.out.dec HH2.out HLL.out (fun hp => by have := HGL.out hp; have := H2.out.le; omega) (by omega)).mono ?_
  rintro e x3 ⟨A3, m3, c3, ts3, rfl, -, -, -, hd3, ht3, hc3⟩
  rw [HLL.out] at hd3
  have H3 := Lib.hid (H2.out.turn ht3 hd3 hc3)
  clear hd3 ht3 hc3 H2 HH2
  go_upto_region 4 with fail
  have HL4 := Lib.hid (lit_one x3 126)
  rw [show ((126 : UInt8).toNat : Int) = 126 from rfl] at HL4
  have H4 := Lib.hid (H3.out.step (new_below x3 (.cells #[.int .u8 126] 5)))
  have HDl := Lib.hid H3.out.dec.lt
  clear H3
  generalize hx4 : x3.alloc (.cells #[.int .u8 126] 5) = x4 at *
  go_wp2_with fail
  refine (feed_on (l := [126]) H4.out.tab H4.out.dec HL4.out rfl (fun _ => by have := HDl.out; omega) (by simp; omega)).mono ?_
  rintro e x5 ⟨A5, m5, c5, ts5, rfl, -, -, -, hd5, ht5, hc5⟩
  rw [feed_one] at hd5
  have HF0 := Lib.hid (one_flag (Dc.zero.feed l).1 H4.out.dec.ok)
  have H5 := Lib.hid (H4.out.turn ht5 (hd5.mono (show 0 + m + [(126 : UInt8)].length ≤ 3000 by simp; omega)) hc5)
  clear hd5 ht5 hc5 H4 HL4 HDl hx4
  generalize ((Dc.zero.feed l).1.one 126).1 = d0 at *
  have HM0 := Lib.hid H5.out.dec.most
  go_wp2_with fail
  refine (held_on H5.out.dec).mono ?_
  rintro e x6 ⟨rfl, rfl⟩
  rw [HF0.out.1]
  go_upto_region 8 with fail
  have HO7 := Lib.hid (Own1.empty x6)
  have HB7 := Lib.hid (new_below x6 (.cells #[] 5))
  generalize x6.alloc (.cells #[] 5) = x7 at *
  go_wp2
  go_loopw [9, 10] (fun v i wr => ∃ (k n' c' : Nat) (A' : Option Addr), k ≤ lenm ∧ k ≤ 200 ∧ i = .int .i64 k ∧ v = .slice A' n' c' ∧ Hid (Own1 wr x6.heap.size A' n' c' (flt lm k)) ∧ Hid (Below x6.heap.size x6 wr)) (fun _ i _ => lenm - (intOf i).toNat)
  case atStart => exact ⟨0, 0, 0, _, Nat.zero_le _, Nat.zero_le _, rfl, rfl, HO7, HB7⟩
  case round =>
    clear HO7 HB7
    obtain ⟨k, n', c', A', hk, hk2, rfl, rfl, HO, HB⟩ := hrel
    by_cases hlt : k < lenm ∧ k < 200
    · obtain ⟨hkl, hk200⟩ := hlt
      have hkl' : k < lm.length := by rw [HML.out]; exact hkl
      obtain ⟨hgm, om, rfl, hcm⟩ := HMM.out (by rw [bcs_length]; omega)
      have hc1 := hcm k _ (bcs_get lm k hkl')
      have hBW : Below w.heap.size w wr := H5.out.below.trans (HB.out.mono H5.out.below.size)
      have hc := (hBW.cell (p := ⟨gm, om + k, none⟩) hgm).trans hc1
      have hgml : gm < wr.heap.size := Nat.lt_of_lt_of_le hgm hBW.size
      clear hc1 hcm hBW
      have i1 : (k : Int) < (lenm : Int) := by omega
      have i2 : (k : Int) < 200 := by omega
      obtain ⟨b, hb⟩ : ∃ b, lm[k]'hkl' = b := ⟨_, rfl⟩
      have HBb := Lib.hid hb
      rw [hb] at hc
      clear hb
      by_cases hb : b = 126
      · subst hb
        rw [show ((126 : UInt8).toNat : Int) = 126 from rfl] at hc
        have HN := Lib.hid (flt_no hkl' HBb.out)
        go_wp2
        go_roundw
        case rel => exact ⟨k + 1, n', c', A', by omega, by omega, by go_num, rfl, by rw [HN.out]; exact HO, HB⟩
        case measure => simp [intOf]; omega
      · have hbn : ((b.toNat : Int) != 126) = true := by rw [bne_iff_ne]; intro hh; exact hb (by apply UInt8.toNat_inj.1; show b.toNat = 126; omega)
        have HN : Hid (flt lm (k + 1) = flt lm k ++ [b]) := by show _ = _; rw [flt_yes hkl' (by rw [HBb.out]; exact hb), HBb.out]
        have hn' : n' ≤ 200 := by have := flt_le lm k; rw [HO.out.len] at this; omega
        have HLB := Lib.hid (lit_one wr b)
        have HOa := Lib.hid (HO.out.alloc (.cells #[.int .u8 (b.toNat : Int)] 5))
        have HBa := Lib.hid (HB.out.trans ((new_below wr (.cells #[.int .u8 (b.toNat : Int)] 5)).mono HB.out.size))
        have hsz : x6.heap.size ≤ (wr.alloc (.cells #[.int .u8 (b.toNat : Int)] 5)).heap.size := HBa.out.size
        go_wp2_with (at_builtin; refine wpList_append_holds rfl (.tmp 55) (.tmp 60) 32 rfl 5 i0 (.int .u8 0) 1 Tryd.underlying32 hi hz0' hz1 hz2 rfl (.slice A' n' c') n' (bcs (flt lm k)) rfl HOa.out.own wr.heap.size (some ⟨wr.heap.size, 0, none⟩) 1 1 (bcs [b]) rfl rfl HLB.out (bcs_one _) (by unfold maxLen; omega) (by omega) ?_; intro A8 c8 x8 hown8 hgr8 hat8; rw [← bcs_append, ← HN.out] at hown8; have HG8 := Lib.hid (HOa.out.grown hsz hgr8 hown8 (by rw [HN.out, List.length_append, HO.out.len]; rfl) hat8); clear hown8 hgr8 hat8)
        go_roundw
        case rel => exact ⟨k + 1, n' + 1, c8, A8, by omega, by omega, by go_num, rfl, HG8.out.1, HBa.out.trans HG8.out.2⟩
        case measure => simp [intOf]; omega
    · obtain ⟨said, hsaid⟩ : ∃ said, said = flt lm k := ⟨_, rfl⟩
      have HSP : Hid (∀ b ∈ said, b ≠ 126) := by rw [hsaid]; exact flt_plain lm k
      have hsl : n' ≤ 200 := by have := flt_le lm k; rw [HO.out.len] at this; omega
      rw [← hsaid] at HO
      clear hsaid
      have H8 := Lib.hid (H5.out.step HB.out)
      have HSL := Lib.hid HO.out.len
      have hcs := HO.out.cap
      obtain ⟨gs, hgs, hgs'⟩ := HO.out.holds
      have HGS := Lib.hid hgs
      have HGN : Hid (0 < said.length → gs ≠ D) := fun hp => by have := hgs' (by rw [← HSL.out]; exact hp); have := H5.out.dec.lt; omega
      clear HO HB hgs hgs' H5
      go_upto_region 9 with fail
      go_cut [47] (fun v y => v = .bool false ∧ y = wr)
      case first =>
        by_cases hkl : k < lenm
        · have i1 : (k : Int) < (lenm : Int) := by omega
          have i2 : ¬ (k : Int) < 200 := by omega
          go_wp2
          go_meet
          case rel => exact ⟨rfl, rfl⟩
        · have i1 : ¬ (k : Int) < (lenm : Int) := by omega
          go_wp2
          go_meet
          case rel => exact ⟨rfl, rfl⟩
      case rest =>
        obtain ⟨rfl, rfl⟩ := hcut
        go_wp2_with fail
        refine (errors_on H8.out.dec).mono ?_
        rintro e x9 ⟨rfl, hb9⟩
        rw [ecs_lit]
        have H9 := Lib.hid (H8.out.step hb9)
        have HG9 := Lib.hid (HGS.out.keep (Ch.of_below hb9) (by simp))
        clear hb9 H8 HGS
        go_upto_region 14 with fail
        have HE10 := Lib.hid (Er.start x9 d0.errs)
        have HW10 := Lib.hid (new_below x9 (.cells #[.int .i64 (d0.errs 0 : Int), .int .i64 (d0.errs 1 : Int), .int .i64 (d0.errs 2 : Int), .int .i64 (d0.errs 3 : Int), .int .i64 (d0.errs 4 : Int), .int .i64 (d0.errs 5 : Int), .int .i64 (d0.errs 6 : Int), .int .i64 (d0.errs 7 : Int), .int .i64 (d0.errs 8 : Int), .int .i64 (d0.errs 9 : Int), .int .i64 (d0.errs 10 : Int), .int .i64 (d0.errs 11 : Int)] 25))
        have H10 := Lib.hid (H9.out.step HW10.out)
        have HG10 := Lib.hid (HG9.out.keep (Ch.of_below HW10.out) (by simp))
        generalize x9.alloc (.cells #[.int .i64 (d0.errs 0 : Int), .int .i64 (d0.errs 1 : Int), .int .i64 (d0.errs 2 : Int), .int .i64 (d0.errs 3 : Int), .int .i64 (d0.errs 4 : Int), .int .i64 (d0.errs 5 : Int), .int .i64 (d0.errs 6 : Int), .int .i64 (d0.errs 7 : Int), .int .i64 (d0.errs 8 : Int), .int .i64 (d0.errs 9 : Int), .int .i64 (d0.errs 10 : Int), .int .i64 (d0.errs 11 : Int)] 25) = x10 at *
        generalize x9.heap.size = E at *
        have HT10 : Hid (Th w D d0 3000 gs A' said E d0.errs x10) := ⟨H10.out, HG10.out, HGN.out, HE10.out⟩
        clear H9 HG9 HE10 HW10 H10 HG10 HGN
        go_wp2
        go_loopw [12, 13, 14] (fun a b i wr => ∃ (k nn bt : Nat) (d : Dc), k ≤ n ∧ k ≤ 10 ∧ i = .int .i64 k ∧ a = .int .i64 nn ∧ b = .int .i64 bt ∧ nn ≤ k ∧ bt ≤ k ∧ Hid (d.held = [] ∧ d.over = false ∧ total d.errs = total d0.errs + bt) ∧ Hid (Th w D d (3000 + 1000 * k) gs A' said E d0.errs wr)) (fun _ _ i _ => n - (intOf i).toNat)
        case atStart => exact ⟨0, 0, 0, d0, Nat.zero_le _, Nat.zero_le _, rfl, rfl, rfl, Nat.le_refl _, Nat.le_refl _, ⟨HF0.out.1, HF0.out.2, rfl⟩, HT10⟩
        case round =>
          clear HT10
          obtain ⟨k, nn, bt, d, hk, hk10, rfl, rfl, rfl, hnn, hbt, HD, HT⟩ := hrel
          by_cases hlt : k < n ∧ k < 10
          · obtain ⟨hkn, hk10'⟩ := hlt
            have i1 : (k : Int) < (n : Int) := by omega
            have i2 : (k : Int) < 10 := by omega
            obtain ⟨F, hF⟩ : ∃ F, fs[k]? = some F := ⟨_, List.getElem?_eq_getElem (by rw [HFL.out]; exact hkn)⟩
            obtain ⟨b, o, gF, AF, cF, hPe, hbw, hc6, hfit, hhF⟩ := HFS.out k F hF
            subst hPe
            have HFit := Lib.hid hfit
            have HCW := Lib.hid hc6
            have HBW := Lib.hid hbw
            have HHF := Lib.hid hhF
            have hc6r : wr.cell? ⟨b, o + k * 6, none⟩ = some (.int .u8 (F.a : Int)) ∧ wr.cell? ⟨b, o + k * 6 + 1, none⟩ = some (.int .u8 (F.k : Int)) ∧ wr.cell? ⟨b, o + k * 6 + 2, none⟩ = some (.int .u8 (F.s : Int)) ∧ wr.cell? ⟨b, o + k * 6 + 3, none⟩ = some (.int .u8 (F.q : Int)) ∧ wr.cell? ⟨b, o + k * 6 + 4, none⟩ = some (.int .u8 (F.c : Int)) ∧ wr.cell? ⟨b, o + k * 6 + 5, none⟩ = some (.slice AF F.b.length cF) := by
              obtain ⟨q0, q1, q2, q3, q4, q5⟩ := hc6
              have hbb := HT.out.sd.below
              exact ⟨(hbb.cell (p := ⟨b, o + k * 6, none⟩) hbw).trans q0, (hbb.cell (p := ⟨b, o + k * 6 + 1, none⟩) hbw).trans q1, (hbb.cell (p := ⟨b, o + k * 6 + 2, none⟩) hbw).trans q2, (hbb.cell (p := ⟨b, o + k * 6 + 3, none⟩) hbw).trans q3, (hbb.cell (p := ⟨b, o + k * 6 + 4, none⟩) hbw).trans q4, (hbb.cell (p := ⟨b, o + k * 6 + 5, none⟩) hbw).trans q5⟩
            obtain ⟨q0, q1, q2, q3, q4, q5⟩ := hc6r
            clear hc6 hfit hhF hF hbw
            cases hr : F.right
            · have HR := Lib.hid hr
              clear hr
              go_wp2_with fail
              refine (encode_no (g := 0) HR.out).mono ?_
              rintro e y1 ⟨rfl, hb⟩
              have HT1 := Lib.hid (HT.out.step hb)
              clear hb
              go_wp2
              go_roundw
              case rel => exact ⟨k + 1, nn, bt, d, by omega, by omega, by go_num, rfl, rfl, by omega, by omega, HD, HT1.out.mono (by omega)⟩
              case measure => simp [intOf]; omega
            · have HR := Lib.hid hr
              have hFL : F.b.length ≤ 24 := right_le hr
              clear hr
              have hs256 : F.s < 256 := HFit.out.s
              go_wp2_with fail
              refine (encode_yes (L := F.b) HT.out.sd.tab (HHF.out.keep (Ch.of_below HT.out.sd.below) (by simp)) rfl HR.out hs256).mono ?_
              rintro e y1 ⟨X, M, hX, hM, rfl, hrow, hb⟩
              have HT1 := Lib.hid (HT.out.step hb)
              have HX : Hid (D < X) := Nat.lt_of_lt_of_le HT.out.sd.dec.lt hX
              have HRow : Hid (Row y1 X F.enc) := hrow
              have HM : Hid (F.enc.length = M) := hM.symm
              have hMl : M ≤ 64 := by
                have h1 := mid_le F
                rw [← HM.out, enc_length]
                omega
              clear hb hX hM hrow q0 q1 q2 q3 q4 q5 HT
              go_wp2_with fail
              refine (feed_on (l := F.enc) HT1.out.sd.tab HT1.out.sd.dec HRow.out.holds HM.out (fun _ => by have := HX.out; omega) (by omega)).mono ?_
              rintro e y2 ⟨A2, m2, c2, ts2, rfl, ho2, hf2, -, hd2, ht2, hc2⟩
              rw [feed_enc F d HD.out.1 HD.out.2.1 HFit.out HR.out] at hf2 hd2
              have hl2 : ts2.length = 1 := by rw [← List.length_map (f := (·.f)), hf2]; rfl
              obtain rfl : m2 = 1 := by rw [← ho2.len]; exact hl2
              obtain ⟨t2, rfl⟩ := List.length_eq_one_iff.1 hl2
              have ht2f : t2.f = F := by simpa using hf2
              rw [HM.out] at hd2
              have HT2 := Lib.hid (HT1.out.turn ht2 hd2 hc2)
              obtain ⟨g2, B2, b2, h2, rfl, hfa⟩ := ho2.fa 0 (by simp) F (by exact ht2f)
              have HFA := Lib.hid hfa
              clear ho2 hf2 hd2 ht2 hc2 hl2 ht2f hfa HT1 HRow HX
              go_upto_region 22 with fail
              have HV : Hid (Fo w D d (3000 + 1000 * k + M) gs A' said E d0.errs g2 B2 b2 h2 b o k gF AF cF F y2.drew) := Fo.step ⟨HT2.out, HFA.out, HBW.out, HCW.out, HHF.out⟩ (drew_below y2)
              clear HT2 HFA
              refine region_plan [(true, 0), (true, 1), (true, 2), (true, 3), (true, 4), (true, 5), (true, 6), (true, 8), (true, 9), (true, 10), (true, 11), (false, 7), (false, 12), (true, 13), (true, 14), (true, 15), (true, 16), (false, 17), (true, 18), (true, 19)]
                (fun x => (x.cell? ⟨g2, 0, none⟩ = some (.int .u8 (F.a : Int)) ∧ x.cell? ⟨g2, 1, none⟩ = some (.int .u8 (F.k : Int)) ∧ x.cell? ⟨g2, 2, none⟩ = some (.int .u8 (F.s : Int)) ∧ x.cell? ⟨g2, 3, none⟩ = some (.int .u8 (F.q : Int)) ∧ x.cell? ⟨g2, 4, none⟩ = some (.int .u8 (F.c : Int)) ∧ x.cell? ⟨g2, 5, none⟩ = some (.slice B2 F.b.length b2)) ∧ (x.cell? ⟨b, o + k * 6, none⟩ = some (.int .u8 (F.a : Int)) ∧ x.cell? ⟨b, o + k * 6 + 1, none⟩ = some (.int .u8 (F.k : Int)) ∧ x.cell? ⟨b, o + k * 6 + 2, none⟩ = some (.int .u8 (F.s : Int)) ∧ x.cell? ⟨b, o + k * 6 + 3, none⟩ = some (.int .u8 (F.q : Int)) ∧ x.cell? ⟨b, o + k * 6 + 4, none⟩ = some (.int .u8 (F.c : Int)) ∧ x.cell? ⟨b, o + k * 6 + 5, none⟩ = some (.slice AF F.b.length cF)))
                (by kernel_rfl) (by kernel_rfl) (by kernel_rfl) rfl HV.out.cells ?_
              iterate 11 (refine Plan.take (v := ?_) rfl (by rfl) ?_ ?_; rotate_left 1; (focus (intro x hx; go_simp <;> (first | with_reducible rfl | rw [if_pos (by omega)]))); simp only [Act.put, List.setIfInBounds_toArray, List.set_cons_zero, List.set_cons_succ])
              generalize y2.drew = y3 at *
              refine Plan.loud rfl (fun K hK => ?_)
              go_simp
              refine (of_on HV.out.f1.hold rfl).mono ?_
              rintro e y4 ⟨rfl, hb⟩
              replace HV := Lib.hid (HV.out.step hb)
              clear hb
              refine hK.out _ _ _ (fun x hx => hx) HV.out.cells ?_
              clear hK K
              refine Plan.loud rfl (fun K hK => ?_)
              go_simp
              refine (of_on HV.out.arg rfl).mono ?_
              rintro e y5 ⟨rfl, hb⟩
              replace HV := Lib.hid (HV.out.step hb)
              clear hb
              refine hK.out _ _ _ (fun x hx => hx) HV.out.cells ?_
              clear hK K
              iterate 4 (refine Plan.take (v := ?_) rfl (by rfl) ?_ ?_; rotate_left 1; (focus (intro x hx; go_simp <;> (first | with_reducible rfl | rw [if_pos (by omega)]))); simp only [Act.put, List.setIfInBounds_toArray, List.set_cons_zero, List.set_cons_succ])
              refine Plan.loud rfl (fun K hK => ?_)
              go_simp
              refine (held_on HV.out.th.sd.dec).mono ?_
              rintro e y6 ⟨rfl, rfl⟩
              rw [HD.out.1]
              refine hK.out _ _ _ (fun x hx => hx) HV.out.cells ?_
              clear hK K
              iterate 2 (refine Plan.take (v := ?_) rfl (by rfl) ?_ ?_; rotate_left 1; (focus (intro x hx; go_simp <;> (first | with_reducible rfl | rw [if_pos (by omega)]))); simp only [Act.put, List.setIfInBounds_toArray, List.set_cons_zero, List.set_cons_succ])
              refine Plan.done ?_
              have HT3 := Lib.hid HV.out.th
              clear HV
              go_wp2_with fail
              refine (decode_on HT3.out.sd.tab HT3.out.holds HSL.out hcs (by omega)).mono ?_
              rintro e y7 ⟨f7, er, A7, m7, c7, g7, -, her, -, rfl, -, -, hb⟩
              have HT7 := Lib.hid ((HT3.out.step hb).step (new_below y7 (.cells #[.int .u8 (f7.a : Int), .int .u8 (f7.k : Int), .int .u8 (f7.s : Int), .int .u8 (f7.q : Int), .int .u8 (f7.c : Int), .slice A7 m7 c7] 35)))
              have HER := Lib.hid her
              clear hb her HT3
              go_upto_region 26 with fail
              generalize y7.alloc (.cells #[.int .u8 (f7.a : Int), .int .u8 (f7.k : Int), .int .u8 (f7.s : Int), .int .u8 (f7.q : Int), .int .u8 (f7.c : Int), .slice A7 m7 c7] 35) = y8 at *
              by_cases he : er = 0
              · subst he
                go_wp2
                go_roundw
                case rel => exact ⟨k + 1, nn + 1, bt, d, by omega, by omega, by go_num, by go_num, rfl, by omega, by omega, HD, HT7.out.mono (by omega)⟩
                case measure => simp [intOf]; omega
              · have he0 : ((er : Int) == 0) = false := by rw [beq_eq_false_iff_ne]; omega
                have HNE : Hid (decE said ≠ 0) := by show _ ≠ _; rw [← HER.out]; exact he
                have HNO := Lib.hid (feed_noise said d HD.out.1 HD.out.2.1 HSP.out HNE.out)
                clear he
                go_wp2_with fail
                refine (feed_on (l := said) HT7.out.sd.tab HT7.out.sd.dec HT7.out.holds HSL.out (fun hp => HT7.out.ne (by rw [HSL.out]; exact hp)) (by omega)).mono ?_
                rintro e y9 ⟨A9, m9, c9, ts9, rfl, ho9, hf9, -, hd9, ht9, hc9⟩
                rw [HNO.out.1] at hf9
                obtain rfl := told_none ho9 hf9
                rw [HSL.out] at hd9
                have HT9 := Lib.hid (HT7.out.turn ht9 hd9 hc9)
                have HOK := Lib.hid (one_flag (d.feed said).1 hd9.ok)
                have HTT := Lib.hid HNO.out.2.2
                clear ho9 hf9 hd9 ht9 hc9 HT7 HNO
                generalize (d.feed said).1 = d1 at *
                by_cases h0 : 0 < n'
                · have i3 : (0 : Int) < (n' : Int) := by omega
                  have hne : said ≠ [] := by intro hh; have := HSL.out; rw [hh] at this; simp at this; omega
                  rw [if_neg hne] at HTT
                  clear hne
                  go_upto_region 31 with fail
                  have HL := Lib.hid (lit_one y9 126)
                  rw [show ((126 : UInt8).toNat : Int) = 126 from rfl] at HL
                  have HT10 := Lib.hid (HT9.out.step (new_below y9 (.cells #[.int .u8 126] 5)))
                  have HDl := Lib.hid HT9.out.sd.dec.lt
                  clear HT9
                  generalize hy10 : y9.alloc (.cells #[.int .u8 126] 5) = y10 at *
                  go_wp2_with fail
                  refine (feed_on (l := [126]) HT10.out.sd.tab HT10.out.sd.dec HL.out rfl (fun _ => by have := HDl.out; omega) (by simp; omega)).mono ?_
                  rintro e y11 ⟨A11, m11, c11, ts11, rfl, -, -, -, hd11, ht11, hc11⟩
                  rw [feed_one] at hd11
                  have HT11 := Lib.hid (HT10.out.turn ht11 (hd11.mono (show 3000 + 1000 * k + M + n' + [(126 : UInt8)].length ≤ 3000 + 1000 * (k + 1) by simp; omega)) hc11)
                  clear hd11 ht11 hc11 HT10 HL HDl hy10
                  go_wp2
                  go_roundw
                  case rel => exact ⟨k + 1, nn + 1, bt + 1, (d1.one 126).1, by omega, by omega, by go_num, by go_num, by go_num, by omega, by omega, ⟨HOK.out.1, HOK.out.2, by rw [HTT.out, HD.out.2.2]; omega⟩, HT11⟩
                  case measure => simp [intOf]; omega
                · have i3 : ¬ (0 : Int) < (n' : Int) := by omega
                  have hne : said = [] := List.eq_nil_of_length_eq_zero (by rw [HSL.out]; omega)
                  rw [if_pos hne] at HTT
                  clear hne
                  go_upto_region 31 with fail
                  have HL := Lib.hid (lit_one y9 126)
                  rw [show ((126 : UInt8).toNat : Int) = 126 from rfl] at HL
                  have HT10 := Lib.hid (HT9.out.step (new_below y9 (.cells #[.int .u8 126] 5)))
                  have HDl := Lib.hid HT9.out.sd.dec.lt
                  clear HT9
                  generalize hy10 : y9.alloc (.cells #[.int .u8 126] 5) = y10 at *
                  go_wp2_with fail
                  refine (feed_on (l := [126]) HT10.out.sd.tab HT10.out.sd.dec HL.out rfl (fun _ => by have := HDl.out; omega) (by simp; omega)).mono ?_
                  rintro e y11 ⟨A11, m11, c11, ts11, rfl, -, -, -, hd11, ht11, hc11⟩
                  rw [feed_one] at hd11
                  have HT11 := Lib.hid (HT10.out.turn ht11 (hd11.mono (show 3000 + 1000 * k + M + n' + [(126 : UInt8)].length ≤ 3000 + 1000 * (k + 1) by simp; omega)) hc11)
                  clear hd11 ht11 hc11 HT10 HL HDl hy10
                  go_wp2
                  go_roundw
                  case rel => exact ⟨k + 1, nn + 1, bt, (d1.one 126).1, by omega, by omega, by go_num, by go_num, rfl, by omega, by omega, ⟨HOK.out.1, HOK.out.2, by rw [HTT.out, HD.out.2.2, Nat.add_zero]⟩, HT11⟩
                  case measure => simp [intOf]; omega
          · go_upto_region 17 with fail
            go_cut [71] (fun v y => v = .bool false ∧ y = wr)
            case first =>
              by_cases hkl : k < n
              · have i1 : (k : Int) < (n : Int) := by omega
                have i2 : ¬ (k : Int) < 10 := by omega
                go_wp2
                go_meet
                case rel => exact ⟨rfl, rfl⟩
              · have i1 : ¬ (k : Int) < (n : Int) := by omega
                go_wp2
                go_meet
                case rel => exact ⟨rfl, rfl⟩
            case rest =>
              obtain ⟨rfl, rfl⟩ := hcut
              go_wp2_with fail
              refine (errors_on HT.out.sd.dec).mono ?_
              rintro e z1 ⟨rfl, hb⟩
              rw [ecs_lit]
              have HT1 := Lib.hid (HT.out.step hb)
              clear hb HT
              go_upto_region 33 with fail
              have HE2 := Lib.hid (Er.start z1 d.errs)
              have HT2 := Lib.hid (HT1.out.step (new_below z1 (.cells #[.int .i64 (d.errs 0 : Int), .int .i64 (d.errs 1 : Int), .int .i64 (d.errs 2 : Int), .int .i64 (d.errs 3 : Int), .int .i64 (d.errs 4 : Int), .int .i64 (d.errs 5 : Int), .int .i64 (d.errs 6 : Int), .int .i64 (d.errs 7 : Int), .int .i64 (d.errs 8 : Int), .int .i64 (d.errs 9 : Int), .int .i64 (d.errs 10 : Int), .int .i64 (d.errs 11 : Int)] 25)))
              clear HT1
              generalize z1.alloc (.cells #[.int .i64 (d.errs 0 : Int), .int .i64 (d.errs 1 : Int), .int .i64 (d.errs 2 : Int), .int .i64 (d.errs 3 : Int), .int .i64 (d.errs 4 : Int), .int .i64 (d.errs 5 : Int), .int .i64 (d.errs 6 : Int), .int .i64 (d.errs 7 : Int), .int .i64 (d.errs 8 : Int), .int .i64 (d.errs 9 : Int), .int .i64 (d.errs 10 : Int), .int .i64 (d.errs 11 : Int)] 25) = z2 at *
              generalize z1.heap.size = G at *
              have HMO := Lib.hid HT2.out.sd.dec.most
              go_wp2
              go_loopw [21, 22] (fun s i wr => ∃ q : Nat, q ≤ 12 ∧ i = .int .i64 q ∧ s = .int .i64 ((totK d.errs q : Int) - (totK d0.errs q : Int)) ∧ Hid (Er wr G d.errs ∧ Er wr E d0.errs ∧ Below w.heap.size w wr)) (fun _ i _ => 12 - (intOf i).toNat)
              case atStart => exact ⟨0, Nat.zero_le _, rfl, rfl, ⟨HE2.out, HT2.out.er, HT2.out.sd.below⟩⟩
              case round =>
                obtain ⟨q, hq, rfl, rfl, HEE⟩ := hrel
                by_cases hlt : q < 12
                · have hc1 := HEE.out.1.cell q hlt
                  have hc2 := HEE.out.2.1.cell q hlt
                  have hlt' : (q : Int) < 12 := by omega
                  have b1 := totK_le d.errs (3000 + 1000 * k) HMO.out q
                  have b2 := totK_le d0.errs 3000 HM0.out q
                  have b3 := HMO.out q
                  have b4 := HM0.out q
                  have b5 : q * (3000 + 1000 * k) ≤ 12 * 13000 := Nat.mul_le_mul hq (by omega)
                  have HS1 := Lib.hid (totK_succ d.errs q)
                  have HS2 := Lib.hid (totK_succ d0.errs q)
                  generalize totK d.errs q = t1 at *
                  generalize totK d0.errs q = t2 at *
                  generalize d.errs q = e1 at *
                  generalize d0.errs q = e2 at *
                  have w1 : IntKind.i64.wrap ((t1 : Int) - (t2 : Int) + (e1 : Int)) = (t1 : Int) - (t2 : Int) + (e1 : Int) := by rw [IntKind.wrap_i64]; omega
                  have w2 : IntKind.i64.wrap ((t1 : Int) - (t2 : Int) + (e1 : Int) - (e2 : Int)) = (t1 : Int) - (t2 : Int) + (e1 : Int) - (e2 : Int) := by rw [IntKind.wrap_i64]; omega
                  go_upto_region 37 with fail
                  refine region_plan [(true, 0), (true, 1), (true, 2), (true, 3), (true, 4), (true, 5), (true, 6), (true, 7), (true, 8), (true, 9)]
                    (fun x => x.cell? ⟨G, q, none⟩ = some (.int .i64 (e1 : Int)) ∧ x.cell? ⟨E, q, none⟩ = some (.int .i64 (e2 : Int))) (by kernel_rfl) (by kernel_rfl) (by kernel_rfl) rfl ⟨hc1, hc2⟩ ?_
                  iterate 10 (refine Plan.take (v := ?_) rfl (by rfl) ?_ ?_; rotate_left 1; (focus (intro x hx; go_simp <;> (first | with_reducible rfl | rw [if_pos (by omega)]))); simp only [Act.put, List.setIfInBounds_toArray, List.set_cons_zero, List.set_cons_succ])
                  refine Plan.done ?_
                  have HE3 : Hid (Er wr.drew G d.errs ∧ Er wr.drew E d0.errs ∧ Below w.heap.size w wr.drew) := ⟨HEE.out.1.keep (Ch.refl [] wr).drew (by simp), HEE.out.2.1.keep (Ch.refl [] wr).drew (by simp), HEE.out.2.2.drew⟩
                  clear hc1 hc2 HEE
                  generalize wr.drew = z3 at *
                  go_wp2
                  go_roundw
                  case rel => exact ⟨q + 1, by omega, by go_num, by rw [HS1.out, HS2.out]; congr 1; omega, HE3⟩
                  case measure => simp [intOf]; omega
                · have hq12 : q = 12 := by omega
                  subst hq12
                  rw [totK_all, totK_all, HD.out.2.2]
                  generalize total d0.errs = tt at *
                  have heq : ((tt + bt : Nat) : Int) - (tt : Int) = (bt : Int) := by omega
                  rw [heq]
                  go_wp2
                  go_ret
                  exact ⟨rfl, HEE.out.2.2⟩

end Go.Proofs.YtalolefggihloaaDoor
