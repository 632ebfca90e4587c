/-
  The program's poll: what Next answers.
-/
import Derived.Test.YtkghbdikbbeoaaaPolKc
namespace Go.Proofs.Ytkghbdikbbeoaaa
set_option linter.unusedVariables false
set_option linter.unusedSimpArgs false
open Go.RowKit

theorem Cr.ch {L U F : Nat} {a b c : World} (h : Cr L U a b) (k : Ch [F] b c) (hF : a.heap.size ≤ F) : Cr L U a c :=
  ⟨k.os.trans h.os, k.tape.trans h.tape, k.output.trans h.output, Nat.le_trans h.size k.size, fun i hi hb => (k.block i (Nat.lt_of_lt_of_le hi h.size) (by simp; omega)).trans (h.block i hi hb)⟩
/-- The closure's variables stand so that it tells the place (nx + j) next. -/
structure Rj (w : World) (G D n nx j : Nat) : Prop where
  at_ : ∃ m : Nat, Rv w G D ((m : Int) - 1) ∧ m ≤ 40 ∧ m % n = (nx + j) % n
theorem Rj.next {G D n nx j r : Nat} {y : World} (h0 : 0 < n) (hn : n ≤ 40) (hr : (nx + j) % n = r) (h : Rv y G D (((r + 1 : Nat) : Int) - 1)) : Rj y G D n nx (j + 1) := by
  have hlt : r < n := by rw [← hr]; exact Nat.mod_lt _ h0
  refine ⟨r + 1, h, by omega, ?_⟩
  rw [← hr, ← Nat.add_assoc, Nat.add_mod ((nx + j) % n), Nat.mod_mod, ← Nat.add_mod]
def KNextPost (w : World) (L U D : Nat) (q : Po) (now : Int) (A : Option Addr) (g c : Nat) (e : Ending) (w' : World) : Prop :=
  e = .returned (.tuple #[.int .u8 ((nextP q now).2.1 : Int), .bool (nextP q now).2.2]) ∧ Ko w' L U D (nextP q now).1 A g c ∧ Cr L U w w'

set_option maxRecDepth 20000 in
set_option maxHeartbeats 3200000 in
theorem knext_on {w : World} {L U D g c : Nat} {q : Po} {now : Int} {A : Option Addr} (h : Ko w L U D q A g c) (hok : q.Ok) (hn : I64 now) : Calls Try.prog 13 #[.pointer (some ⟨D, 0, none⟩), .int .i64 now] w (KNextPost w L U D q now A g c) := by
  have HP : Hid (∀ (e : Ending) w' q' a ok, nextP q now = (q', a, ok) → e = .returned (.tuple #[.int .u8 ((a : Nat) : Int), .bool ok]) → Ko w' L U D q' A g c → Cr L U w w' → KNextPost w L U D q now A g c e w') := by
    intro e w' q' a ok h1 h2 h3 h4
    unfold KNextPost
    rw [h1]
    exact ⟨h2, h3, h4⟩
  have HOK := Lib.hid hok
  have HNW := Lib.hid hn
  have H0 := Lib.hid h
  obtain ⟨n, hln⟩ : ∃ n, q.l.length = n := ⟨_, rfl⟩
  have HN := Lib.hid hln
  have HN40 : Hid (n ≤ 40) := Lib.hid (by have := hok.len; omega)
  generalize KNextPost w L U D q now A g c = Q at *
  go_enter Try.func13, Try.ntmps13
  go_wp2_with fail
  refine (klongest_on h hok hn).mono ?_
  clear h hok hn H0
  rintro e x ⟨rfl, h1, h2⟩
  have HF := Lib.hid (Cr.of_below (L := L) (U := U) h2)
  clear h2
  rw [hln]
  clear hln
  cases hb : bestN q.l now n with
  | some b =>
    have hbn := bestN_lt hb
    have hbl : b < q.l.length := by rw [HN.out]; exact hbn
    obtain ⟨rfl, _, _, hrow⟩ := h1.row (by omega)
    have e0 := (hrow.cell hbl).1
    have e2 := (hrow.cell hbl).2.2
    have z2 := hrow.fz (b * 3 + 2)
    obtain ⟨s1, s2⟩ := hrow.setT hbl now
    have HE := Lib.hid (h1.turned (by omega) s2 s1 (by simp))
    have HX : Hid (nextP q now = ({ q with l := q.l.set b { pe q.l b with t := now } }, (pe q.l b).a, true)) := by show _ = _; unfold nextP; rw [HN.out, hb]
    clear hb h1 hrow s1 s2 hbl hbn
    simp only [ptrP]
    go_wp2
    exact HP.out _ _ _ _ _ HX.out rfl HE.out.1 (HF.out.trans HE.out.2)
  | none =>
    have HBN := Lib.hid hb
    clear hb
    simp only [ptrP]
    go_wp2_with fail
    refine (kround_on h1).mono ?_
    rintro e x2 ⟨rfl, h3, h4⟩
    have HGU : Hid (U ≤ x.heap.size) := Lib.hid h1.us
    have HGW : Hid (w.heap.size ≤ x.heap.size) := Lib.hid HF.out.size
    have HRJ : Hid (Rj x2 x.heap.size D n q.nx 0) := Lib.hid ⟨q.nx, h3, by have h5 := HOK.out.nx; have h6 := HN.out; have h7 := HN40.out; omega, rfl⟩
    have H := Lib.hid (h1.step h4)
    have HF2 := Lib.hid (HF.out.trans (Cr.of_below h4))
    clear h1 h3 h4 HF
    generalize x.heap.size = G at *
    have c0 := H.out.c0
    rw [HN.out] at c0
    have hn40 := HN40.out
    go_wp2
    go_loopw [29] (fun kv wr => ∃ (j : Nat), j ≤ n ∧ kv = .int .i64 (j : Int) ∧ Hid (seekN q.l q.nx j = none) ∧ Hid (Ko wr L U D q A g c) ∧ Hid (Rj wr G D n q.nx j) ∧ Hid (Cr L U w wr)) (fun kv _ => n - (intOf kv).toNat)
    case atStart => exact ⟨0, Nat.zero_le _, rfl, Lib.hid rfl, H, HRJ, HF2⟩
    case round =>
      clear H HRJ HF2 c0
      obtain ⟨j, hj, rfl, HS, H, HRJ, HF⟩ := hrel
      rename World => y
      by_cases hjn : j < n
      · have hjn1 : (j : Int) < (n : Int) := by omega
        have hn0 : 0 < n := by omega
        obtain ⟨i, hi⟩ : ∃ i, (q.nx + j) % n = i := ⟨_, rfl⟩
        have hin : i < n := by rw [← hi]; exact Nat.mod_lt _ hn0
        have HI := Lib.hid hi
        obtain ⟨m, m1, m2, m3⟩ := HRJ.out.at_
        go_wp2_with fail
        refine (kstep_on H.out m1 HN.out hn0 m2).mono ?_
        rintro e z ⟨rfl, h5, h6⟩
        rw [m3, hi] at h5 ⊢
        have H2 : Hid (Ko z L U D q A g c) := Lib.hid (H.out.keep (fun k k1 k2 => h6.block k (by have := H.out.us; omega) (by have := HGU.out; simp; omega)) (Nat.le_trans H.out.us h6.size))
        have HF2 : Hid (Cr L U w z) := Lib.hid (HF.out.ch h6 (by have := HGW.out; omega))
        have HRJ2 : Hid (Rj z G D n q.nx (j + 1)) := Lib.hid (Rj.next hn0 hn40 hi h5)
        clear m1 m2 m3 h5 h6 H HF HRJ
        have hil : i < q.l.length := by rw [HN.out]; exact hin
        obtain ⟨rfl, _, hgU, hrow⟩ := H2.out.row (by omega)
        have c0 : z.cell? ⟨D, 0, none⟩ = some (.slice (some ⟨g, 0, none⟩) n c) := by rw [← HN.out]; exact H2.out.c0
        have f1 := H2.out.f1
        have c1 := H2.out.c1
        have e0 := (hrow.cell hil).1
        have e1 := (hrow.cell hil).2.1
        have hcap : n ≤ c := by have := hrow.cap; rw [HN.out] at this; exact this
        obtain ⟨di, hdi⟩ : ∃ di, (pe q.l i).d = di := ⟨_, rfl⟩
        rw [hdi] at e1
        have hin1 : (i : Int) < (n : Int) := by omega
        have hx : (pe q.l ((q.nx + j) % q.l.length)).d = di := by rw [HN.out, hi]; exact hdi
        have hDg := H2.out.ne (by omega)
        have ne1 : ¬ D = g := hDg
        have ne2 : ¬ g = D := fun h => hDg h.symm
        cases di with
        | false =>
          have hsk : seekN q.l q.nx n = some i := by
            have := seekN_of hx (fun j' hj' => seekN_none HS.out j' hj') (k := n) hjn
            rw [this, HN.out, hi]
          have HX : Hid (nextP q now = ({ q with nx := i + 1 }, (pe q.l i).a, true)) := by show _ = _; unfold nextP; rw [HN.out, HBN.out, hsk]
          have HE : Hid (Ko (z.setCell ⟨D, 1, none⟩ (.int .i64 (i : Int))) L U D { q with nx := i + 1 } (some ⟨g, 0, none⟩) g c ∧ Cr L U z (z.setCell ⟨D, 1, none⟩ (.int .i64 (i : Int)))) := by
            obtain ⟨q1, q2⟩ := put_row (i := 1) (v := .int .i64 (i : Int)) H2.out.hd
            have h1 := H2.out.lo
            have h2 := H2.out.hi
            refine ⟨⟨h1, h2, Nat.le_trans H2.out.us q2.size, ?_, fun _ => ⟨rfl, by assumption, hgU, hrow.of_eq (q2.block g hrow.lt (by simpa using ne2))⟩⟩, ⟨q2.os, q2.tape, q2.output, q2.size, fun k hk hb => q2.block k hk (by simp; omega)⟩⟩
            rw [q1]
            simp
          clear hx hsk hi hrow H2 hil hdi HS hDg
          go_wp2
          exact HP.out _ _ _ _ _ HX.out rfl HE.out.1 (HF2.out.trans HE.out.2)
        | true =>
          have HS2 : Hid (seekN q.l q.nx (j + 1) = none) := by
            show _ = _
            unfold seekN
            rw [HS.out]
            simp only []
            rw [hx]
            rfl
          clear hx hi hrow hil hdi hDg
          go_wp2
          go_roundw
          case rel => exact ⟨j + 1, by omega, by go_num, HS2, H2, HRJ2, HF2⟩
          case measure => simp [intOf]; omega
      · have hjn2 : n = j := by omega
        subst hjn2
        have HX : Hid (nextP q now = (q, 0, false)) := by show _ = _; unfold nextP; rw [HN.out, HBN.out, HS.out]
        go_wp2
        exact HP.out _ _ _ _ _ HX.out rfl H.out HF.out
end Go.Proofs.Ytkghbdikbbeoaaa
