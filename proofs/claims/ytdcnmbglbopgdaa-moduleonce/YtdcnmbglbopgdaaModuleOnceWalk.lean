/-
  lamplightlaw11.ModuleOnce, walked: true, under the conditions on module's calls.
-/
import Derived.Test.YtdcnmbglbopgdaaModT
import Derived.Deep.DeepCutAuto
namespace Go.Proofs.Ytdcnmbglbopgdaa
set_option linter.unusedVariables false
set_option linter.unusedSimpArgs false
open Go.RowKit

theorem LiA.plus {l : Li} {t q most : Nat} (h : LiA l []) (hs : Sh l.m true false t q most) : LiA ⟨pressMo l.m 1, l.seq, l.ack⟩ [] ∧ Sh (pressMo l.m 1) true false t (if q < most then q + 1 else q) most := by
  have hp : pressMo l.m 1 = { l.m with qty := if l.m.qty < l.m.most then l.m.qty + 1 else l.m.qty } := by
    unfold pressMo
    rw [if_neg (by rw [hs.lit, hs.lat]; simp), if_pos rfl]
  rw [hp]
  have hok := h.mi.ok
  have h1 := hok.qty
  refine ⟨⟨⟨h.mi.s, h.mi.f, ⟨hok.s, hok.f, hok.tok, by show (if l.m.qty < l.m.most then l.m.qty + 1 else l.m.qty) ≤ l.m.most; split <;> omega, hok.most⟩⟩, h.seq, h.ack⟩, ⟨hs.lit, hs.lat, hs.tok, by show (if l.m.qty < l.m.most then l.m.qty + 1 else l.m.qty) = _; rw [hs.qty, hs.most], hs.most⟩⟩
theorem LiA.less {l : Li} {t q most : Nat} (h : LiA l []) (hs : Sh l.m true false t q most) : LiA ⟨pressMo l.m 2, l.seq, l.ack⟩ [] ∧ Sh (pressMo l.m 2) true false t (q - 1) most := by
  have hp : pressMo l.m 2 = { l.m with qty := l.m.qty - 1 } := by
    unfold pressMo
    rw [if_neg (by rw [hs.lit, hs.lat]; simp), if_neg (by omega), if_pos rfl]
  rw [hp]
  have hok := h.mi.ok
  have h1 := hok.qty
  refine ⟨⟨⟨h.mi.s, h.mi.f, ⟨hok.s, hok.f, hok.tok, by show l.m.qty - 1 ≤ l.m.most; omega, hok.most⟩⟩, h.seq, h.ack⟩, ⟨hs.lit, hs.lat, hs.tok, by show l.m.qty - 1 = q - 1; rw [hs.qty], hs.most⟩⟩
/-- How it stands at the beginning of a round. -/
def OnceSt (l : Li) (p : List UInt8) (t q most : Nat) : Prop := (p = [] ∧ LiA l [] ∧ Sh l.m true false t q most) ∨ (p.length = 5 ∧ (∃ pp, LiA l [] ∨ LiB l pp) ∧ Sh l.m true true t q most)
/-- .. behind the press: what is wanted now, what was told. -/
def OncePr (l : Li) (p told : List UInt8) (t q most : Nat) : Prop :=
  (p = [] ∧ told = [] ∧ LiA l [] ∧ Sh l.m true false t q most) ∨ (p.length = 5 ∧ told = [] ∧ LiA l p ∧ Sh l.m true true t q most) ∨ (p.length = 5 ∧ told = p ∧ (∃ pp, LiA l [] ∨ LiB l pp) ∧ Sh l.m true true t q most)
theorem once_bits {l : Li} {p told : List UInt8} {t q most : Nat} (h : OncePr l p told t q most) : l.seq ≤ 1 ∧ l.ack ≤ 1 := by
  rcases h with ⟨_, _, h, _⟩ | ⟨_, _, h, _⟩ | ⟨_, _, ⟨pp, h⟩, _⟩
  · exact ⟨h.seq, h.ack⟩
  · exact ⟨h.seq, h.ack⟩
  · exact ⟨(li_bits h).1, (li_bits h).2.1⟩
theorem once_zero {l : Li} {p : List UInt8} {t q most : Nat} (h : OnceSt l p t q most) : l.m.f = zeroB := by
  rcases h with ⟨_, h, _⟩ | ⟨_, ⟨pp, h⟩, _⟩
  · exact h.mi.f
  · exact (li_bits h).2.2
theorem once_sh {l : Li} {p told : List UInt8} {t q most : Nat} (h : OncePr l p told t q most) : Sh l.m true (decide (p ≠ [])) t q most := by
  rcases h with ⟨h0, _, _, h⟩ | ⟨h0, _, _, h⟩ | ⟨h0, _, _, h⟩
  · subst h0; simpa using h
  · have : p ≠ [] := by rintro rfl; simp at h0
    simpa [this] using h
  · have : p ≠ [] := by rintro rfl; simp at h0
    simpa [this] using h
/-- Polled: what was told, and what is told, is what is wanted. -/
theorem once_poll {l : Li} {p told : List UInt8} {t q most : Nat} (h : OncePr l p told t q most) : told ++ (tellsLi l []).2 = p ∧ OnceSt (tellsLi l []).1 p t q most := by
  rcases h with ⟨rfl, rfl, h, hs⟩ | ⟨h0, rfl, h, hs⟩ | ⟨h0, rfl, ⟨pp, h⟩, hs⟩
  · obtain ⟨h1, h2, h3⟩ := li_poll (p := []) (.inl h) hs
    exact ⟨by rw [h1]; rfl, .inl ⟨rfl, h2, h3⟩⟩
  · obtain ⟨h1, h2, _, h4⟩ := h.poll
    exact ⟨by rw [h1]; rfl, .inr ⟨h0, ⟨p, .inr (h4 (by omega))⟩, by rw [h2]; exact hs⟩⟩
  · obtain ⟨h1, h2, h3⟩ := li_poll h hs
    exact ⟨by rw [h1, List.append_nil], .inr ⟨h0, ⟨[], .inl h2⟩, h3⟩⟩
theorem bytes_cat (a b : List UInt8) : ((⟨a.toArray⟩ : ByteArray) ++ ⟨b.toArray⟩) = ⟨(a ++ b).toArray⟩ := by
  apply ByteArray.ext
  simp [ByteArray.data_append]
theorem once_len {l : Li} {p told : List UInt8} {t q most : Nat} (h : OncePr l p told t q most) : p.length ≤ 5 := by
  rcases h with ⟨rfl, _⟩ | ⟨h0, _⟩ | ⟨h0, _⟩
  · exact Nat.zero_le _
  · exact Nat.le_of_eq h0
  · exact Nat.le_of_eq h0
set_option maxRecDepth 20000 in
set_option maxHeartbeats 6400000 in
theorem moduleonce_walk {Mp : World → List Nat → Nat → Mo → Prop} (MC : ModCond Mp) {g n c t q : Nat} {A : Option Addr} {l : List UInt8} {w : World} (h : Holds w g A (bcs l)) (hn : l.length = n) (hc : n ≤ c) (hcm : c ≤ 9223372036854775807) (ht : t < 65536) (hq : q < 65536) :
    Calls Try.prog 5 #[.int .u16 (t : Int), .int .u16 (q : Int), .slice A n c] w fun e w' => e = .returned (.bool true) ∧ Below w.heap.size w w' := by
  obtain ⟨m, hm1, hm2, hlast⟩ : ∃ m, m ≤ n ∧ m ≤ 30 ∧ (m = n ∨ m = 30) := ⟨min n 30, by omega, by omega, by omega⟩
  have HMC := Lib.hid MC
  have HH := Lib.hid h
  have HL := Lib.hid hn
  have HLA := Lib.hid hlast
  clear MC h hn hlast
  go_enter Try.func5, Try.ntmps5
  go_wp2_with fail
  refine (shown_on HMC.out w).mono ?_
  rintro e x0 ⟨rfl, hb0⟩
  have HB0 := Lib.hid hb0
  clear hb0
  go_wp2_with fail
  refine (opened_on HMC.out x0).mono ?_
  rintro e x1 ⟨D, X, rfl, h1, -⟩
  have H1 := Lib.hid (h1.base HB0.out)
  clear h1
  go_wp2_with fail
  refine (HMC.out.cbytes (k := 1) (by omega) ht hq).mono ?_
  rintro e x2 ⟨A2, c2, rfl, hoo, hbb⟩
  have HO := Lib.hid hoo
  have HB := Lib.hid hbb
  clear hoo hbb
  go_wp2_with fail
  refine (say_on HMC.out H1.out (by simp) (by omega) (by omega) HB.out HO.out (Nat.le_refl _) rfl (by omega) (by omega)).mono ?_
  rintro e x3 ⟨rfl, h, -⟩
  obtain ⟨_, p2, p3⟩ := lia_open.lightS (t := t) (q := q) rfl ht hq
  have HST : Hid (OnceSt (tellsLi ⟨openMo, 0, 0⟩ (txt5 1 t q)).1 [] t q q) := Lib.hid (.inl ⟨rfl, p2, p3⟩)
  have H3 := Lib.hid h
  clear h p2 p3 H1 HO HB
  generalize (tellsLi ⟨openMo, 0, 0⟩ (txt5 1 t q)).1 = l3 at *
  go_wp2
  go_loopw [9, 10, 11, 12, 13] (fun wv tv qv nv iv wr => ∃ (i : Nat) (li : Li) (p : List UInt8) (qn : Nat), i ≤ m ∧ qn ≤ q ∧ wv = .string ⟨p.toArray⟩ ∧ tv = .string ⟨p.toArray⟩ ∧ qv = .int .i64 qn ∧ nv = .int .i64 ((1 + 10 * i : Nat) : Int) ∧ iv = .int .i64 i ∧ Hid (OnceSt li p t qn q) ∧ Hid (Ll Mp w [] X D li.m li.seq li.ack wr)) (fun _ _ _ _ iv _ => m - (intOf iv).toNat)
  case atStart => exact ⟨0, l3, [], q, Nat.zero_le _, Nat.le_refl _, rfl, rfl, rfl, rfl, rfl, HST, H3⟩
  case round =>
    clear HST H3 x3
    obtain ⟨i, li, p, qn, hi, hqn, rfl, rfl, rfl, rfl, rfl, HS, H⟩ := hrel
    rename World => y0
    by_cases hlt : i < m
    · have hlt1 : (i : Int) < (n : Int) := by omega
      have hlt3 : (i : Int) < 30 := by omega
      have hil : i < l.length := by rw [HL.out]; omega
      obtain ⟨hgw, o, rfl, hcell⟩ := HH.out (by rw [bcs_length]; omega)
      have e0 : y0.cell? ⟨g, o + i, none⟩ = some (.int .u8 (l[i].toNat : Int)) := (H.out.lm.below.cell (p := ⟨g, o + i, none⟩) hgw).trans (hcell i _ (bcs_get l i hil))
      have ha : l[i].toNat < 256 := l[i].toNat_lt
      generalize l[i].toNat = a at *
      obtain ⟨b, hb3, hba⟩ := and3b a ha
      clear hcell hgw hil
      go_wp2_with fail
      refine (press_on HMC.out H.out (b := b) (now := 1 + 10 * i) hb3 (once_zero HS.out) (by omega)).mono ?_
      rintro e y1 ⟨rfl, h, -⟩
      have H1 := Lib.hid h
      clear h H e0
      go_upto_if 49 with fail
      go_cut [9, 11] (fun wv qv y => ∃ (p' : List UInt8) (q' : Nat), q' ≤ q ∧ wv = .string ⟨p'.toArray⟩ ∧ qv = .int .i64 q' ∧ Hid (OncePr ⟨pressMo li.m b, li.seq, li.ack⟩ p' p t q' q) ∧ Hid (Ll Mp w [] X D (pressMo li.m b) li.seq li.ack y))
      case first =>
        rcases HS.out with ⟨hp0, hA, hS⟩ | ⟨hp5, hC, hS⟩
        · subst hp0
          have HA := Lib.hid hA
          have HSS := Lib.hid hS
          clear hA hS HS
          rcases (by omega : b = 0 ∨ b = 1 ∨ b = 2 ∨ b = 3) with hb | hb | hb | hb
          · subst hb
            go_wp2_with fail
            refine (text_on (k := 1) (by omega) ht (by omega)).mono ?_
            rintro e y2 ⟨rfl, hbb⟩
            have H2 := Lib.hid (H1.out.step HMC.out hbb)
            obtain ⟨p1, p2⟩ := HA.out.offer (b := 0) HSS.out (.inl rfl)
            have HQ : Hid (OncePr ⟨pressMo li.m 0, li.seq, li.ack⟩ (txt5 1 t qn) [] t qn q) := Lib.hid (.inr (.inl ⟨txt5_len _ _ _, rfl, p1, p2⟩))
            clear hbb H1 p1 p2
            go_wp2
            go_meet
            case rel => exact ⟨_, _, hqn, rfl, rfl, HQ, H2⟩
          · subst hb
            have HM : Hid (min ((qn : Int) + 1) (q : Int) = ((if qn < q then qn + 1 else qn : Nat) : Int)) := Lib.hid (by split <;> omega)
            obtain ⟨p1, p2⟩ := HA.out.plus HSS.out
            have HQ : Hid (OncePr ⟨pressMo li.m 1, li.seq, li.ack⟩ [] [] t (if qn < q then qn + 1 else qn) q) := Lib.hid (.inl ⟨rfl, rfl, p1, p2⟩)
            clear p1 p2
            go_wp2
            all_goals
              go_meet
              case rel => exact ⟨[], (if qn < q then qn + 1 else qn), by split <;> omega, rfl, by first | rfl | (congr 1; split <;> omega) | simp_all, HQ, H1⟩
          · subst hb
            have hm1 : max ((qn : Int) - 1) 0 = ((qn - 1 : Nat) : Int) := by omega
            have hm2 : (if (0 : Int) < (qn : Int) - 1 then (qn : Int) - 1 else 0) = ((qn - 1 : Nat) : Int) := by split <;> omega
            have hm3 : (if (qn : Int) - 1 < 0 then 0 else (qn : Int) - 1) = ((qn - 1 : Nat) : Int) := by split <;> omega
            obtain ⟨p1, p2⟩ := HA.out.less HSS.out
            have HQ : Hid (OncePr ⟨pressMo li.m 2, li.seq, li.ack⟩ [] [] t (qn - 1) q) := Lib.hid (.inl ⟨rfl, rfl, p1, p2⟩)
            clear p1 p2
            go_wp2
            go_meet
            case rel => exact ⟨[], qn - 1, by omega, rfl, rfl, HQ, H1⟩
          · subst hb
            go_wp2_with fail
            refine (text_on (k := 2) (by omega) ht (by omega)).mono ?_
            rintro e y2 ⟨rfl, hbb⟩
            have H2 := Lib.hid (H1.out.step HMC.out hbb)
            obtain ⟨p1, p2⟩ := HA.out.offer (b := 3) HSS.out (.inr rfl)
            have HQ : Hid (OncePr ⟨pressMo li.m 3, li.seq, li.ack⟩ (txt5 2 t qn) [] t qn q) := Lib.hid (.inr (.inl ⟨txt5_len _ _ _, rfl, p1, p2⟩))
            clear hbb H1 p1 p2
            go_wp2
            go_meet
            case rel => exact ⟨_, _, hqn, rfl, rfl, HQ, H2⟩
        · have hne : p.isEmpty = false := by
            cases p with
            | nil => simp at hp5
            | cons a b => rfl
          have hlm := pressMo_lat (b := b) hS.lat
          have HQ : Hid (OncePr ⟨pressMo li.m b, li.seq, li.ack⟩ p p t qn q) := Lib.hid (by rw [hlm]; exact .inr (.inr ⟨hp5, rfl, hC, hS⟩))
          clear hC hS HS hp5 hlm
          go_wp2_with fail
          all_goals try (exact absurd ‹p.isEmpty = true› (by rw [hne]; decide))
          go_meet
          case rel => exact ⟨p, qn, hqn, rfl, rfl, HQ, H1⟩
      case rest =>
        clear HS H1 y1
        obtain ⟨p', q', hq', rfl, rfl, HP, H1⟩ := hcut
        rename World => y1
        have c0 := H1.out.cells.1
        go_wp2_with fail
        refine (H1.out.show_on HMC.out).mono ?_
        rintro e y2 ⟨rfl, h, -⟩
        have hsh := once_sh HP.out
        rw [hsh.mdc]
        have H2 := Lib.hid h
        obtain ⟨bl, hbl, hbe⟩ : ∃ bl, decide (p' ≠ []) = bl ∧ p'.isEmpty = !bl := ⟨_, rfl, by cases p' <;> rfl⟩
        rw [hbl]
        clear h H1 c0 hsh hbl
        have hb3 := new_below y2 (.cells #[.bool true, .bool bl, .int .u16 (t : Int), .int .u16 (q' : Int), .int .u16 (q : Int)] 53)
        have H3 := Lib.hid (H2.out.more HMC.out hb3 (by simp))
        have HX3 : Hid (X ≠ y2.heap.size) := Lib.hid (H2.out.ne (Nat.le_refl _))
        have HD3 := Lib.hid (heap_alloc_new y2 (.cells #[.bool true, .bool bl, .int .u16 (t : Int), .int .u16 (q' : Int), .int .u16 (q : Int)] 53))
        clear hb3 H2
        go_wp2_with fail
        clear hbe HD3
        generalize y2.alloc (.cells #[.bool true, .bool bl, .int .u16 (t : Int), .int .u16 (q' : Int), .int .u16 (q : Int)] 53) = y3 at *
        generalize y2.heap.size = Y at *
        refine (poll_on HMC.out H3.out (by simpa using HX3.out) (once_bits HP.out).1 (once_bits HP.out).2).mono ?_
        rintro e y4 ⟨rfl, h, -⟩
        obtain ⟨p1, p2⟩ := once_poll HP.out
        have HS4 := Lib.hid p2
        have H4 : Hid (Ll Mp w [] X D (tellsLi ⟨pressMo li.m b, li.seq, li.ack⟩ []).1.m (tellsLi ⟨pressMo li.m b, li.seq, li.ack⟩ []).1.seq (tellsLi ⟨pressMo li.m b, li.seq, li.ack⟩ []).1.ack y4) := Lib.hid (h.less (by simp))
        have HPC := Lib.hid ((bytes_cat p (tellsLi ⟨pressMo li.m b, li.seq, li.ack⟩ []).2).trans (congrArg (fun l => (⟨l.toArray⟩ : ByteArray)) p1))
        have hlen : p.length + (tellsLi ⟨pressMo li.m b, li.seq, li.ack⟩ []).2.length ≤ 5 := by rw [← List.length_append, p1]; exact once_len HP.out
        clear h p1 p2 H3 HX3 HP
        generalize (tellsLi ⟨pressMo li.m b, li.seq, li.ack⟩ []).2 = tt at *
        generalize (tellsLi ⟨pressMo li.m b, li.seq, li.ack⟩ []).1 = l4 at *
        go_wp2
        case roundEnd =>
          refine ⟨?_, by simp [intOf]; omega⟩
          exact ⟨i + 1, l4, p', q', by omega, hq', rfl, congrArg Value.string HPC.out, rfl, by go_num, by go_num, HS4, H4⟩

    · have hkn : m = i := by omega
      subst hkn
      have hex : (¬ (m : Int) < (n : Int)) ∨ ((m : Int) < (n : Int) ∧ ¬ (m : Int) < 30) := by have := HLA.out; omega
      clear hi hlt
      rcases hex with hl1 | ⟨hl1, hl2⟩
      all_goals
        go_wp2
        go_ret
        exact ⟨by first | rfl | simp, H.out.lm.below⟩
end Go.Proofs.Ytdcnmbglbopgdaa
