/-
  lamplightlaw01.OctetsWrites answers true, and turns nothing that was there: the walk.
-/
import Derived.Test.YtlaoheflblkgaaaWritesMath
import Derived.Deep.DeepCutAuto
import Derived.Deep.CutBlock
import Derived.Lib.Builder
namespace Go.Proofs.Ytlaoheflblkgaaa
set_option linter.unusedVariables false
set_option linter.unusedSimpArgs false
open Go.RowKit

/-- The writer, with what it has. -/
structure WSt (w wr : World) (W g : Nat) (a : List UInt8) : Prop where
  t : Wtr wr W g a
  from_ : w.heap.size ≤ W ∧ w.heap.size ≤ g
  below : Below w.heap.size w wr

theorem WSt.keep {F : List Nat} {w wr w' : World} {W g : Nat} {a : List UInt8} (h : WSt w wr W g a) (hc : Ch F wr w') (hF : ∀ x ∈ F, x ≠ W ∧ x ≠ g ∧ w.heap.size ≤ x) : WSt w w' W g a :=
  ⟨h.t.keep hc (fun hm => (hF _ hm).1 rfl) (fun hm => (hF _ hm).2.1 rfl), h.from_, h.below.trans (hc.belowAt (fun x hx => (hF x hx).2.2) h.below.size)⟩

theorem WSt.put {w wr w5 : World} {W g g5 : Nat} {a a' : List UInt8} (h : WSt w wr W g a) (hg5 : g5 = g ∨ wr.heap.size ≤ g5) (ht5 : Wtr w5 W g5 a') (hc5 : Ch [W, g] wr w5) : WSt w w5 W g5 a' := by
  have hf := h.from_
  have hs := h.below.size
  exact ⟨ht5, ⟨hf.1, by omega⟩, h.below.trans (hc5.belowAt (by simp; omega) hs)⟩

theorem WSt.later {w wr w' : World} {W g : Nat} {a : List UInt8} (h : WSt w wr W g a) (hb : Below wr.heap.size wr w') : WSt w w' W g a :=
  h.keep (Ch.of_below hb) (by simp)

theorem Shape.keep {F : List Nat} {w w' : World} {ok : Nat → Prop} {V : Option Addr} {ps : List (List UInt8)} (h : Shape w ok V ps) (hc : Ch F w w') (hF : ∀ x ∈ F, ¬ ok x) : Shape w' ok V ps := by
  intro k l hk
  obtain ⟨b, A, c, hV, hok, hcell, hin⟩ := h k l hk
  refine ⟨b, A, c, hV, hok, (hc.cell (World.block_lt_of_cell? w _ hcell) (fun hm => hF _ hm hok)).trans hcell, fun hp => ?_⟩
  obtain ⟨g, hA, hokg, hne, cs, hh, hl⟩ := hin hp
  exact ⟨g, hA, hokg, hne, cs, (hc.block g (Array.getElem?_eq_some_iff.1 hh).1 (fun hm => hF _ hm hokg)).trans hh, hl⟩

theorem alloc_cell (wr : World) (cs : Array Value) (t : TypeId) (i : Nat) (v : Value) (h : cs[i]? = some v) : (wr.alloc (.cells cs t)).cell? ⟨wr.heap.size, i, none⟩ = some v := by
  have hh : (wr.alloc (.cells cs t)).heap[wr.heap.size]? = some (.cells cs t) := heap_alloc_new wr _
  simp only [World.cell?]
  rw [hh]
  simpa using h

theorem info_writer : ∃ j, Try.prog.info? 55 = some j := Option.isSome_iff_exists.1 (by kernel_rfl)

/-- Puts as they come in. -/
def PutsAt (w : World) (P : Option Addr) (st : List (Int × Nat × List (List UInt8))) : Prop :=
  ∀ k p, st[k]? = some p → ∃ b o A c, P = some ⟨b, o, none⟩ ∧ b < w.heap.size ∧ w.cell? ⟨b, o + k * 3, none⟩ = some (.int .i64 p.1) ∧ w.cell? ⟨b, o + k * 3 + 1, none⟩ = some (.int .u32 (p.2.1 : Int)) ∧ p.2.1 < 4294967296 ∧
    w.cell? ⟨b, o + k * 3 + 2, none⟩ = some (.slice A p.2.2.length c) ∧ p.2.2.length ≤ 9223372036854775807 ∧ InParts w A p.2.2

/-- What the switch leaves. -/
def Wsw (w : World) (W : Nat) (k : Nat) (s5 s8 : Value) (wx : World) : Prop :=
  ∃ (g : Nat) (a : List UInt8), s5 = .string ⟨a.toArray⟩ ∧ s8 = .pointer (some ⟨W, 0, none⟩) ∧ a.length ≤ 250 * (k + 1) ∧ WSt w wx W g a

set_option maxHeartbeats 4000000 in
set_option maxRecDepth 100000 in
theorem writes_walk (P : Option Addr) (n c : Nat) (st : List (Int × Nat × List (List UInt8))) (w : World)
    (hst : PutsAt w P st) (hn : st.length = n) (hnm : n ≤ 9223372036854775807) :
    Calls Try.prog 4 #[.slice P n c] w fun e w' => e = .returned (.bool true) ∧ Below w.heap.size w w' := by
  have HS := Lib.hid hst
  have HN := Lib.hid hn
  clear hst hn
  go_enter Try.func4, Try.ntmps4
  go_wp2_with fail
  refine (shown_any w).mono ?_
  rintro e w1 ⟨rfl, hb1⟩
  have hw1 : w.heap.size ≤ w1.heap.size := hb1.size
  have HW : Hid (WSt w (w1.alloc (.cells #[.slice none 0 0] 55)) w1.heap.size w1.heap.size []) := ⟨⟨⟨.slice none 0 0, heap_alloc_new w1 _, World.ownsRow_nil _ _ _ _, .inl ⟨rfl, rfl⟩⟩⟩, ⟨hw1, hw1⟩, hb1.alloc hw1 _⟩
  go_wp2
  generalize w1.heap.size = W at *
  generalize w1.alloc (.cells #[.slice none 0 0] 55) = w2 at *
  clear hb1 hw1
  go_loopw [5, 6] (fun s i wr => ∃ (k g : Nat) (a : List UInt8), k ≤ n ∧ k ≤ 40 ∧ i = .int .i64 k ∧ s = .string ⟨a.toArray⟩ ∧ a.length ≤ 250 * k ∧ WSt w wr W g a) (fun _ i _ => n - (intOf i).toNat)
  case atStart => exact ⟨0, W, [], Nat.zero_le _, by omega, rfl, rfl, by simp, HW.out⟩
  case round =>
    obtain ⟨k, g, a, hk, hk40, rfl, rfl, hal, hT⟩ := hrel
    have HT := Lib.hid hT
    clear hT HW
    by_cases hkn : k < n ∧ k < 40
    · obtain ⟨hk1, hk4⟩ := hkn
      have hnn := HN.out
      obtain ⟨⟨kd, nn, ps⟩, hstk⟩ : ∃ p, st[k]? = some p := ⟨_, List.getElem?_eq_getElem (by omega)⟩
      obtain ⟨b, o, A, c', hPe, hbw, hc0, hc1, hnn4, hc2, hpl, hin⟩ := HS.out k _ hstk
      subst hPe
      have h0 : wr.cell? ⟨b, o + k * 3, none⟩ = some (.int .i64 kd) := (HT.out.below.cell (p := ⟨b, o + k * 3, none⟩) hbw).trans hc0
      have h1 : wr.cell? ⟨b, o + k * 3 + 1, none⟩ = some (.int .u32 (nn : Int)) := (HT.out.below.cell (p := ⟨b, o + k * 3 + 1, none⟩) hbw).trans hc1
      have h2 : wr.cell? ⟨b, o + k * 3 + 2, none⟩ = some (.slice A ps.length c') := (HT.out.below.cell (p := ⟨b, o + k * 3 + 2, none⟩) hbw).trans hc2
      have HIN : Hid (InParts wr A ps) := hin.below HT.out.below
      have hkz : (0 : Int) ≤ (k : Int) := by omega
      have hkl : (k : Int) < (n : Int) := by omega
      have hk40i : (k : Int) < 40 := by omega
      clear hnn hstk hc0 hc1 hc2 hin
      replace hnn4 : nn < 4294967296 := hnn4
      replace hpl : ps.length ≤ 9223372036854775807 := hpl
      go_upto_block 2 with (fail)
      have hB1 : (wr.alloc (.cells #[.int .i64 kd, .int .u32 (nn : Int), .slice A ps.length c'] 58)).cell? ⟨wr.heap.size, 1, none⟩ = some (.int .u32 (nn : Int)) := by
        exact alloc_cell wr _ _ 1 _ rfl
      have hB2 : (wr.alloc (.cells #[.int .i64 kd, .int .u32 (nn : Int), .slice A ps.length c'] 58)).cell? ⟨wr.heap.size, 2, none⟩ = some (.slice A ps.length c') := by
        exact alloc_cell wr _ _ 2 _ rfl
      have hchx : Ch [] wr (wr.alloc (.cells #[.int .i64 kd, .int .u32 (nn : Int), .slice A ps.length c'] 58)) := (Ch.refl [] wr).alloc _
      have HTx : Hid (WSt w (wr.alloc (.cells #[.int .i64 kd, .int .u32 (nn : Int), .slice A ps.length c'] 58)) W g a) := HT.out.keep hchx (by simp)
      have HINx : Hid (InParts (wr.alloc (.cells #[.int .i64 kd, .int .u32 (nn : Int), .slice A ps.length c'] 58)) A ps) := HIN.out.below ((Below.refl _ _).alloc (Nat.le_refl _) _)
      have hsx : wr.heap.size < (wr.alloc (.cells #[.int .i64 kd, .int .u32 (nn : Int), .slice A ps.length c'] 58)).heap.size := by simp
      have hlt := HT.out.t.lt
      have hBW : wr.heap.size ≠ W ∧ wr.heap.size ≠ g := by omega
      generalize wr.alloc (.cells #[.int .i64 kd, .int .u32 (nn : Int), .slice A ps.length c'] 58) = wx at *
      generalize wr.heap.size = B at *
      have HBW := Lib.hid hBW
      have HSX := Lib.hid hsx
      clear hchx hlt hBW hsx h0 h1 h2 HT HIN
      have ha4 : a.length ≤ 10000 := by omega
      go_cut [5, 8] (fun s5 s8 wy => Wsw w W k s5 s8 wy)
      case first =>
        by_cases h1 : kd = 1
        · subst h1
          as_aux_lemma =>
          go_wp2_with fail
          refine (wu8_any W g a ((nn : Int) % 256) wx HTx.out.t (by omega) (by omega) (by omega)).mono ?_
          rintro e w5 ⟨rfl, g5, hg5, ht5, hc5⟩
          have hcB5 : w5.cell? ⟨B, 1, none⟩ = some (.int .u32 (nn : Int)) := (hc5.cell HSX.out (by have := HBW.out; simp; omega)).trans hB1
          rw [show ((nn : Int) % 256).toNat = nn % 256 by omega, ← txt_1] at ht5
          have HT5 := Lib.hid (HTx.out.put hg5 ht5 hc5)
          have hct := cat_two a (txt nn 1)
          have htl := txt_len nn 1
          clear ht5 hc5 hg5
          go_wp2_with fail
          refine (text_any nn 1 w5 hnn4 (by omega)).mono ?_
          rintro e w6 ⟨rfl, hb6⟩
          have hT6 := HT5.out.later hb6
          clear hb6
          go_wp2_with fail
          go_meet
          case rel => exact ⟨g5, a ++ txt nn 1, rfl, rfl, by rw [List.length_append, htl]; omega, hT6⟩
        by_cases h2 : kd = 2
        · subst h2
          as_aux_lemma =>
          go_wp2_with fail
          refine (wu16_any W g a ((nn : Int) % 65536) wx HTx.out.t (by omega) (by omega) (by omega)).mono ?_
          rintro e w5 ⟨rfl, g5, hg5, ht5, hc5⟩
          have hcB5 : w5.cell? ⟨B, 1, none⟩ = some (.int .u32 (nn : Int)) := (hc5.cell HSX.out (by have := HBW.out; simp; omega)).trans hB1
          rw [show ((nn : Int) % 65536).toNat = nn % 65536 by omega, ← txt_2] at ht5
          have HT5 := Lib.hid (HTx.out.put hg5 ht5 hc5)
          have hct := cat_two a (txt nn 2)
          have htl := txt_len nn 2
          clear ht5 hc5 hg5
          go_wp2_with fail
          refine (text_any nn 2 w5 hnn4 (by omega)).mono ?_
          rintro e w6 ⟨rfl, hb6⟩
          have hT6 := HT5.out.later hb6
          clear hb6
          go_wp2_with fail
          go_meet
          case rel => exact ⟨g5, a ++ txt nn 2, rfl, rfl, by rw [List.length_append, htl]; omega, hT6⟩
        by_cases h3 : kd = 3
        · subst h3
          as_aux_lemma =>
          go_wp2_with fail
          refine (wu32_any W g a (nn : Int) wx HTx.out.t (by omega) (by omega) (by omega)).mono ?_
          rintro e w5 ⟨rfl, g5, hg5, ht5, hc5⟩
          have hcB5 : w5.cell? ⟨B, 1, none⟩ = some (.int .u32 (nn : Int)) := (hc5.cell HSX.out (by have := HBW.out; simp; omega)).trans hB1
          rw [show (nn : Int).toNat = nn by omega, ← txt_4] at ht5
          have HT5 := Lib.hid (HTx.out.put hg5 ht5 hc5)
          have hct := cat_two a (txt nn 4)
          have htl := txt_len nn 4
          clear ht5 hc5 hg5
          go_wp2_with fail
          refine (text_any nn 4 w5 hnn4 (by omega)).mono ?_
          rintro e w6 ⟨rfl, hb6⟩
          have hT6 := HT5.out.later hb6
          clear hb6
          go_wp2_with fail
          go_meet
          case rel => exact ⟨g5, a ++ txt nn 4, rfl, rfl, by rw [List.length_append, htl]; omega, hT6⟩
        by_cases h4 : kd = 4
        · subst h4
          as_aux_lemma =>
          go_wp2_with fail
          refine (parts_any A ps.length c' ps wx HINx.out rfl hpl).mono ?_
          rintro e w5 ⟨V, cv, vs, rfl, hown, hb5⟩
          have hT5 := HTx.out.later hb5
          have hq5 := cutp_len ps
          have hqf := cutp_flat ps
          generalize cutp ps = qs at *
          have HQM : Hid (∀ l, l ∈ qs → l.length ≤ 250) := fun l hl => Nat.le_trans (List.Sublist.length_le (List.sublist_flatten_of_mem hl)) hqf
          have hlt := HTx.out.t.lt
          have hgx : w.heap.size ≤ wx.heap.size := HTx.out.below.size
          have hok := hown.ok
          have hsh := hown.shape
          have HOK := Lib.hid hok
          have HSH := Lib.hid hsh
          have HT5 := Lib.hid hT5
          have hct := cat_two a qs.flatten
          clear hown hok hsh hT5 hb5
          go_wp2_with fail
          refine (wbytes_any W g V cv qs a _ w5 HT5.out.t HOK.out (by omega) (by omega) (by omega) (by omega)).mono ?_
          rintro e w6 ⟨rfl, g6, hg6, ht6, hc6⟩
          have HT6 := Lib.hid (HT5.out.put hg6 ht6 hc6)
          clear ht6
          generalize qs.flatten = fl at *
          have HS6 := Lib.hid (HSH.out.keep hc6 (by simp; omega))
          have hne6 : ∀ x, (wx.heap.size ≤ x ∧ x < w5.heap.size) → x ≠ W ∧ x ≠ g6 ∧ w.heap.size ≤ x := by
            intro x hx
            omega
          have HN6 := Lib.hid hne6
          clear hc6 hg6 hne6 HT5 HSH HOK hlt hgx
          generalize hokk : (fun x => wx.heap.size ≤ x ∧ x < w5.heap.size) = ok at *
          have HN7 : Hid (∀ x, ok x → x ≠ W ∧ x ≠ g6 ∧ w.heap.size ≤ x) := by subst hokk; exact HN6.out
          clear HN6 hokk
          go_wp2
          go_loopw [11] (fun i wr => ∃ j : Nat, j ≤ qs.length ∧ i = .int .i64 j ∧ Shape wr ok V qs ∧ WSt w wr W g6 (a ++ fl)) (fun i _ => qs.length - (intOf i).toNat)
          case atStart => exact ⟨0, Nat.zero_le _, rfl, HS6.out, HT6.out⟩
          case round =>
            obtain ⟨j, hj, rfl, hS, hT⟩ := hrel
            have HSj := Lib.hid hS
            have HTj := Lib.hid hT
            clear hS hT HS6 HT6
            by_cases hjl : j < qs.length
            · have hjz : (0 : Int) ≤ (j : Int) := by omega
              have hjq : (j : Int) < (qs.length : Int) := by omega
              obtain ⟨b1, A1, c1, hV1, hok1, hcell1, _⟩ := HSj.out j qs[j] (List.getElem?_eq_getElem hjl)
              subst hV1
              have HQ := Lib.hid (List.getElem?_eq_getElem hjl)
              generalize hql : qs[j] = ql at *
              clear hql
              have hql250 : ql.length ≤ 250 := HQM.out ql (List.mem_of_getElem? HQ.out)
              go_wp2
              go_loopw [12] (fun i wr => ∃ m : Nat, m ≤ ql.length ∧ i = .int .i64 m ∧ Shape wr ok (some ⟨b1, 0, none⟩) qs ∧ WSt w wr W g6 (a ++ fl)) (fun i _ => ql.length - (intOf i).toNat)
              case atStart => exact ⟨0, Nat.zero_le _, rfl, HSj.out, HTj.out⟩
              case round =>
                obtain ⟨m, hm, rfl, hS, hT⟩ := hrel
                have HSm := Lib.hid hS
                have HTm := Lib.hid hT
                clear hS hT HSj HTj hcell1
                obtain ⟨b2, A2, c2, hV2, hok2, hcell2, hin2⟩ := HSm.out j ql HQ.out
                injection hV2 with hV2
                injection hV2 with hb2 _ _
                subst hb2
                by_cases hml : m < ql.length
                · obtain ⟨g2, hA2, hokg, hne2, cs, hh2, hl2⟩ := hin2 (by omega)
                  subst hA2
                  have hcellm : wr.cell? ⟨g2, m, none⟩ = some (cs[m]'(by omega)) := by
                    simp [World.cell?, hh2]
                  have hfr : wr.frozen? ⟨g2, m, none⟩ = false := by simp [World.frozen?, hh2]
                  have hmz : (0 : Int) ≤ (m : Int) := by omega
                  have hmq : (m : Int) < (ql.length : Int) := by omega
                  generalize (cs[m]'(by omega)) = ov at *
                  have HX := Lib.hid (And.intro hokg hne2)
                  clear hokg hne2 hh2 hl2 hin2
                  go_wp2
                  go_roundw
                  case rel =>
                    refine ⟨m + 1, by omega, by go_num, HSm.out.set HX.out.2 _, HTm.out.keep (F := [g2]) ((Ch.refl [g2] wr).setCell (by simp) _) ?_⟩
                    have := HN7.out g2 HX.out.1
                    simpa using this
                  case measure => simp [intOf]; omega
                · clear hin2
                  have hmq : ¬ (m : Int) < (ql.length : Int) := by omega
                  go_wp2
                  go_roundw
                  case rel => exact ⟨j + 1, by omega, by go_num, HSm.out, HTm.out⟩
                  case measure => simp [intOf]; omega
            · go_wp2
              go_meet
              case rel => exact ⟨g6, a ++ fl, rfl, rfl, by rw [List.length_append]; omega, HTj.out⟩
        as_aux_lemma =>
        have hb1 : (kd == 1) = false := by simp [h1]
        have hb2 : (kd == 2) = false := by simp [h2]
        have hb3 : (kd == 3) = false := by simp [h3]
        have hb4 : (kd == 4) = false := by simp [h4]
        clear h1 h2 h3 h4
        go_wp2_with fail
        go_meet
        case rel => exact ⟨g, a, rfl, rfl, by omega, HTx.out⟩
      case rest =>
        as_aux_lemma =>
        obtain ⟨g7, a7, rfl, rfl, ha7, hT7⟩ := hcut
        have HT7 := Lib.hid hT7
        clear hT7 HTx HINx hB1 hB2
        have ha10 : a7.length ≤ 10000 := by omega
        go_wp2_with fail
        refine (wdone_any W g7 a7 wc HT7.out.t (by omega)).mono ?_
        rintro e w8 ⟨G, hG, rfl, hrow, hb8⟩
        have hcv := convert_row hrow
        have hlt := HT7.out.t.lt
        have hsz : w.heap.size ≤ wc.heap.size := HT7.out.below.size
        have HT8 := Lib.hid (HT7.out.later hb8)
        have HR8 := Lib.hid hrow
        have hGne : G ≠ W ∧ G ≠ g7 ∧ w.heap.size ≤ G := by omega
        have HGN := Lib.hid hGne
        clear HT7 hb8 hrow hlt hsz hGne hG
        obtain ⟨jw, hjw⟩ := info_writer
        have hpn := Lib.run_neq_ptr_same w8 ⟨W, 0, none⟩ Try.underlying51 hjw
        go_wp2
        go_loopw [14] (fun i wr => ∃ (j : Nat) (t' : List UInt8), j ≤ a7.length ∧ i = .int .i64 j ∧ t'.length = a7.length ∧ Row wr G t' ∧ WSt w wr W g7 a7) (fun i _ => a7.length - (intOf i).toNat)
        case atStart => exact ⟨0, a7, Nat.zero_le _, rfl, rfl, HR8.out, HT8.out⟩
        case round =>
          obtain ⟨j, t', hj, rfl, ht', hR, hT⟩ := hrel
          have HR := Lib.hid hR
          have HTj := Lib.hid hT
          have HT' := Lib.hid ht'
          clear hR hT ht' HR8 HT8 hcv
          by_cases hjl : j < a7.length
          · have hjl' : j < t'.length := by rw [HT'.out]; exact hjl
            have hcell := HR.out.cell j hjl'
            have hfr : wr.frozen? ⟨G, j, none⟩ = false := by
              have := HR.out
              unfold Row at this
              simp [World.frozen?, this]
            have hjz : (0 : Int) ≤ (j : Int) := by omega
            have hjt : (j : Int) < (a7.length : Int) := by omega
            generalize t'[j].toNat = ov at *
            clear hjl'
            go_wp2
            go_roundw
            case rel =>
              refine ⟨j + 1, t'.set j 33, by omega, by go_num, by simp [HT'.out], ?_, ?_⟩
              · have := HR.out
                unfold Row at this ⊢
                simp only [World.setCell, Array.getElem?_modify, this]
                simp [bcs, List.map_set]
              · refine HTj.out.keep (F := [G]) ((Ch.refl [G] wr).setCell (by simp) _) ?_
                have := HGN.out
                simpa using this
            case measure => simp [intOf]; omega
          · go_wp2
            go_roundw
            case rel => exact ⟨k + 1, g7, a7, by omega, by omega, by go_num, rfl, by omega, HTj.out⟩
            case measure => simp [intOf]; omega
    · have ha4 : a.length ≤ 10000 := by omega
      by_cases hk1 : k < n
      all_goals
        as_aux_lemma =>
        go_wp2_with fail
        refine (wdone_any W g a wr HT.out.t (by omega)).mono ?_
        rintro e w8 ⟨G, hG, rfl, hrow, hb8⟩
        have hcv := convert_row hrow
        have HB8 := Lib.hid (HT.out.later hb8).below
        clear hrow hb8 hG
        go_wp2
        go_ret
        exact ⟨rfl, HB8.out⟩

end Go.Proofs.Ytlaoheflblkgaaa
