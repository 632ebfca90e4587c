/-
  lamplightlaw09.PollBack, walked: true, under the conditions on poll's calls.
-/
import Derived.Test.YtkghbdikbbeoaaaPolT
import Derived.Deep.DeepCutAuto
namespace Go.Proofs.Ytkghbdikbbeoaaa
set_option linter.unusedVariables false
set_option linter.unusedSimpArgs false
open Go.RowKit

set_option maxRecDepth 20000 in
set_option maxHeartbeats 6400000 in
theorem pollback_walk {Pl : World → Nat → Nat → Nat → Po → Prop} (PC : PolCond Pl) {g n c g1 n0 c0 : Nat} {A A1 : Option Addr} {l l1 : List UInt8} {ah : Int} {w : World} (h : Holds w g A (bcs l)) (hn : l.length = n) (hc : n ≤ c) (hcm : c ≤ 9223372036854775807)
    (hp : Holds w g1 A1 (bcs l1)) (hs : l1.length = n0) (hc0 : n0 ≤ c0) (hm0 : c0 ≤ 9223372036854775807) :
    Calls Try.prog 8 #[.slice A n c, .slice A1 n0 c0, .int .i64 ah] w fun e w' => e = .returned (.bool true) ∧ Below w.heap.size w w' := by
  obtain ⟨p, hp40, hpn, hpe, hmin⟩ := min40 n
  obtain ⟨m, hm1, hm2, hlast⟩ : ∃ m, m ≤ n0 ∧ m ≤ 40 ∧ (m = n0 ∨ m = 40) := ⟨min n0 40, by omega, by omega, by omega⟩
  obtain ⟨na, hna, hand⟩ := and31 ah
  have hpc : p ≤ c := by omega
  have HPC := Lib.hid PC
  have HH : Hid (Holds w g A (bcs (l.take p))) := by show Holds _ _ _ _; rw [bcs_take]; exact h.take p
  have HLP : Hid ((l.take p).length = p) := by show _ = _; rw [List.length_take]; omega
  have HP := Lib.hid hp
  have HS := Lib.hid hs
  have HLA := Lib.hid hlast
  clear PC h hn hp hs hpe hlast
  generalize l.take p = lp at *
  go_enter Try.func8, Try.ntmps8
  go_wp2_with fail
  refine (shown_on HPC.out w).mono ?_
  rintro e x0 ⟨rfl, hb0⟩
  have HB0 := Lib.hid hb0
  clear hb0
  go_wp2_with fail
  refine (HPC.out.newL (w := w) HB0.out (HH.out.keep (F := []) (Ch.of_below HB0.out) (by simp)) HLP.out hp40 hpc hcm).mono ?_
  rintro e x1 ⟨D, rfl, h1, hb1⟩
  have H1 := Lib.hid h1
  have HB1 := Lib.hid h1.below
  clear h1 hb1 HB0
  generalize x0.heap.size = L at *
  go_wp2_with fail
  refine (HPC.out.newL (w := w) HB1.out (HH.out.keep (F := []) (Ch.of_below HB1.out) (by simp)) HLP.out hp40 hpc hcm).mono ?_
  rintro e x2 ⟨E, rfl, h2, hb2⟩
  have HT : Hid (Two Pl w L x1.heap.size D x2.heap.size E (newP lp) (newP lp) x2) := Lib.hid ⟨H1.out.step HPC.out hb2, h2⟩
  clear h2 hb2 H1 HB1
  generalize x1.heap.size = U at *
  generalize x2.heap.size = V at *
  have HSM : Hid (Sam (newP lp) (newP lp)) := Lib.hid ⟨newP_alive lp, newP_alive lp, rfl, rfl⟩
  generalize newP lp = s0 at *
  clear HH HLP hp40 hpn hmin hpc hc hcm
  go_wp2
  go_loopw [10] (fun j wr => ∃ (i : Nat) (s q : Po), i ≤ na ∧ j = .int .i64 i ∧ Hid (Sam s q) ∧ Hid (Two Pl w L U D V E s q wr)) (fun j _ => na - (intOf j).toNat)
  case atStart => exact ⟨0, s0, s0, Nat.zero_le _, rfl, HSM, HT⟩
  case round =>
    clear HT HSM
    obtain ⟨i, s, q, hi, rfl, HSM, HT⟩ := hrel
    rename World => y0
    by_cases hlt : i < na
    · have hlt1 : (i : Int) < (na : Int) := by omega
      have HI : Hid (I64 (i : Int)) := Lib.hid ⟨by omega, by omega⟩
      as_aux_lemma =>
        go_wp2_with fail
        refine (HPC.out.nextL HT.out.a HI.out).mono ?_
        rintro e y1 ⟨rfl, h1, hc1⟩
        have HT2 := Lib.hid (HT.out.one HPC.out h1 hc1)
        have HSM2 := Lib.hid (HSM.out.next HT.out.a.ok HT.out.b.ok (i : Int)).2
        clear h1 hc1 HT HSM
        generalize nextP s (i : Int) = r1 at *
        go_wp2_with fail
        refine (HPC.out.nextL HT2.out.b HI.out).mono ?_
        rintro e y2 ⟨rfl, h1, hc1⟩
        have HT3 := Lib.hid (HT2.out.other HPC.out h1 hc1)
        clear h1 hc1 HT2
        generalize nextP q (i : Int) = r2 at *
        go_wp2
        go_roundw
        case rel => exact ⟨i + 1, r1.1, r2.1, by omega, by go_num, HSM2, HT3⟩
        case measure => simp [intOf]; omega
    · have hkn : na = i := by omega
      subst hkn
      go_wp2
      go_loopw [11] (fun j wr => ∃ (i : Nat) (s q : Po), i ≤ m ∧ j = .int .i64 i ∧ Hid (Sam s q) ∧ Hid (Two Pl w L U D V E s q wr)) (fun j _ => m - (intOf j).toNat)
      case atStart => exact ⟨0, s, q, Nat.zero_le _, rfl, HSM, HT⟩
      case round =>
        clear HT HSM s q hlt
        obtain ⟨i, s, q, hi, rfl, HSM, HT⟩ := hrel
        rename World => y0
        by_cases hlt : i < m
        · have hlt1 : (i : Int) < (n0 : Int) := by omega
          have hlt2 : (i : Int) < 40 := by omega
          have hil : i < l1.length := by rw [HS.out]; omega
          obtain ⟨hgw, o, rfl, hcell⟩ := HP.out (by rw [bcs_length]; omega)
          have HG : Hid (g1 < w.heap.size) := Lib.hid hgw
          have HCL : Hid (w.cell? ⟨g1, o + i, none⟩ = some (.int .u8 (l1[i].toNat : Int))) := Lib.hid (hcell i _ (bcs_get l1 i hil))
          generalize l1[i].toNat = a at *
          have HI : Hid (I64 (3 * (i : Int))) := Lib.hid ⟨by omega, by omega⟩
          have HB := Lib.hid (HSM.out.back HT.out.a.ok a (3 * (i : Int)))
          clear hcell hgw hil
          have e0 := (HT.out.a.below.cell (p := ⟨g1, o + i, none⟩) HG.out).trans HCL.out
          as_aux_lemma =>
            go_wp2_with fail
            refine (HPC.out.deadL HT.out.a HI.out).mono ?_
            rintro e y1 ⟨rfl, h1, hc1⟩
            have HT2 := Lib.hid (HT.out.one HPC.out h1 hc1)
            clear h1 hc1 HT e0
            generalize deadP s a (3 * (i : Int)) = r1 at *
            have e0 := (HT2.out.a.below.cell (p := ⟨g1, o + i, none⟩) HG.out).trans HCL.out
            go_wp2_with fail
            refine (HPC.out.aliveL HT2.out.a).mono ?_
            rintro e y2 ⟨rfl, h1, hc1⟩
            have HT3 := Lib.hid (HT2.out.one HPC.out h1 hc1)
            obtain ⟨hb1, hb2, hb3⟩ := HB.out
            rw [hb1]
            have HB2 := Lib.hid hb2
            have HB3 := Lib.hid hb3
            clear h1 hc1 HT2 e0 hb1 hb2 hb3 HB
            generalize (aliveP r1.1 a).1 = s3 at *
            obtain ⟨er, her⟩ : ∃ er, r1.2 = er := ⟨_, rfl⟩
            rw [her] at HB2 ⊢
            have e0 := (HT3.out.a.below.cell (p := ⟨g1, o + i, none⟩) HG.out).trans HCL.out
            by_cases h0 : er = 0
            · subst h0
              go_wp2_with fail
              refine (HPC.out.isL HT3.out.a).mono ?_
              rintro e y3 ⟨rfl, h1, hb1⟩
              rw [HB2.out trivial]
              have HT4 := Lib.hid (HT3.out.step HPC.out hb1)
              clear h1 hb1 HT3 e0
              go_wp2
              go_roundw
              case rel => exact ⟨i + 1, s3, q, by omega, by go_num, HB3, HT4⟩
              case measure => simp [intOf]; omega
            · have h0' : (er == 0) = false := by simpa using h0
              clear h0 HB2
              go_wp2
              go_roundw
              case rel => exact ⟨i + 1, s3, q, by omega, by go_num, HB3, HT3⟩
              case measure => simp [intOf]; omega
        · have hkn : m = i := by omega
          subst hkn
          have hex : (¬ (m : Int) < (n0 : Int)) ∨ ((m : Int) < (n0 : Int) ∧ ¬ (m : Int) < 40) := by have := HLA.out; omega
          rcases hex with hl1 | ⟨hl1, hl2⟩
          all_goals
            as_aux_lemma =>
              go_wp2
              go_loopw [14] (fun j wr => ∃ (i : Nat) (s q : Po), i ≤ 80 ∧ j = .int .i64 i ∧ Hid (Sam s q) ∧ Hid (Two Pl w L U D V E s q wr)) (fun j _ => 80 - (intOf j).toNat)
              case atStart => exact ⟨0, s, q, Nat.zero_le _, rfl, HSM, HT⟩
              case round =>
                clear HT HSM s q hlt
                obtain ⟨i, s, q, hi, rfl, HSM, HT⟩ := hrel
                rename World => y0
                by_cases hlt : i < 80
                · have hlt1 : (i : Int) < 80 := by omega
                  have HI : Hid (I64 (100 + (i : Int))) := Lib.hid ⟨by omega, by omega⟩
                  have HB := Lib.hid (HSM.out.next HT.out.a.ok HT.out.b.ok (100 + (i : Int)))
                  go_wp2_with fail
                  refine (HPC.out.nextL HT.out.a HI.out).mono ?_
                  rintro e y1 ⟨rfl, h1, hc1⟩
                  have HT2 := Lib.hid (HT.out.one HPC.out h1 hc1)
                  clear h1 hc1 HT HSM
                  generalize nextP s (100 + (i : Int)) = r1 at *
                  go_wp2_with fail
                  refine (HPC.out.nextL HT2.out.b HI.out).mono ?_
                  rintro e y2 ⟨rfl, h1, hc1⟩
                  have HT3 := Lib.hid (HT2.out.other HPC.out h1 hc1)
                  clear h1 hc1 HT2
                  generalize nextP q (100 + (i : Int)) = r2 at *
                  obtain ⟨r2p, r2v⟩ := r2
                  have hv : r2v = r1.2 := HB.out.1.symm
                  have HSM2 : Hid (Sam r1.1 r2p) := Lib.hid HB.out.2
                  subst hv
                  clear HB
                  simp only at HT3 HSM2 ⊢
                  go_wp2
                  go_roundw
                  case rel => exact ⟨i + 1, r1.1, r2p, by omega, by go_num, HSM2, HT3⟩
                  case measure => simp [intOf]; omega
                · have hkn : 80 = i := by omega
                  subst hkn
                  go_wp2
                  go_ret
                  exact ⟨rfl, HT.out.a.below⟩

end Go.Proofs.Ytkghbdikbbeoaaa
