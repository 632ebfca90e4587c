/-
  The program's poll in memory; find, due, Is, Alive, Dead: what they answer.
-/
import Derived.Test.YtkghbdikbbeoaaaPolC
import Derived.Deep.DeepCutAuto
import Derived.Deep.MidRow
namespace Go.Proofs.Ytkghbdikbbeoaaa
set_option linter.unusedVariables false
set_option linter.unusedSimpArgs false
open Go.RowKit

abbrev kcs (nx : Nat) (V : Value) : Array Value := #[V, .int .i64 ((nx : Int) - 1)]
/-- The program's poll at D, its blocks from L on and below U; its row in block g. -/
structure Ko (w : World) (L U D : Nat) (q : Po) (A : Option Addr) (g c : Nat) : Prop where
  lo : L ≤ D
  hi : D < U
  us : U ≤ w.heap.size
  hd : w.heap[D]? = some (.cells (kcs q.nx (.slice A q.l.length c)) 54 (0, 0))
  row : 0 < q.l.length → A = some ⟨g, 0, none⟩ ∧ L ≤ g ∧ g < U ∧ Prow w g c 58 q.l
theorem Ko.c0 {w : World} {L U D g c : Nat} {q : Po} {A : Option Addr} (h : Ko w L U D q A g c) : w.cell? ⟨D, 0, none⟩ = some (.slice A q.l.length c) := by simp [World.cell?, h.hd]
theorem Ko.c1 {w : World} {L U D g c : Nat} {q : Po} {A : Option Addr} (h : Ko w L U D q A g c) : w.cell? ⟨D, 1, none⟩ = some (.int .i64 ((q.nx : Int) - 1)) := by simp [World.cell?, h.hd]
theorem Ko.f1 {w : World} {L U D g c : Nat} {q : Po} {A : Option Addr} (h : Ko w L U D q A g c) : w.frozen? ⟨D, 1, none⟩ = false := by simp [World.frozen?, h.hd]
theorem Ko.ne {w : World} {L U D g c : Nat} {q : Po} {A : Option Addr} (h : Ko w L U D q A g c) (hl : 0 < q.l.length) : D ≠ g := by
  obtain ⟨_, _, _, hr⟩ := h.row hl
  rintro rfl
  obtain ⟨cur, q1, _⟩ := hr.ex
  have k1 := h.hd
  rw [q1] at k1
  injection k1 with k1
  injection k1 with _ k1
  cases k1
theorem Ko.keep {w w' : World} {L U D g c : Nat} {q : Po} {A : Option Addr} (h : Ko w L U D q A g c) (hc : ∀ k, L ≤ k → k < U → w'.heap[k]? = w.heap[k]?) (hs : U ≤ w'.heap.size) : Ko w' L U D q A g c :=
  ⟨h.lo, h.hi, hs, (hc D h.lo h.hi).trans h.hd, fun hl => ⟨(h.row hl).1, (h.row hl).2.1, (h.row hl).2.2.1, (h.row hl).2.2.2.of_eq (hc g (h.row hl).2.1 (h.row hl).2.2.1)⟩⟩
theorem Ko.step {w w' : World} {L U D g c : Nat} {q : Po} {A : Option Addr} (h : Ko w L U D q A g c) (hb : Below w.heap.size w w') : Ko w' L U D q A g c :=
  h.keep (fun k _ hk => hb.block k (by have := h.us; omega)) (Nat.le_trans h.us hb.size)
/-- Its row turned. -/
theorem Ko.turned {w y : World} {L U D g c : Nat} {q : Po} {A : Option Addr} {l' : List Pe} (h : Ko w L U D q A g c) (hl0 : 0 < q.l.length) (hc : Ch [g] w y) (hy : Prow y g c 58 l') (hl : l'.length = q.l.length) :
    Ko y L U D { q with l := l' } A g c ∧ Cr L U w y := by
  obtain ⟨r1, r2, r3, r4⟩ := h.row hl0
  have hD := h.ne hl0
  refine ⟨⟨h.lo, h.hi, Nat.le_trans h.us hc.size, ?_, fun _ => ⟨r1, r2, r3, hy⟩⟩, ⟨hc.os, hc.tape, hc.output, hc.size, fun k hk hb => hc.block k hk (by simp; omega)⟩⟩
  rw [hc.block D (Array.getElem?_eq_some_iff.1 h.hd).1 (by simpa using hD)]
  show w.heap[D]? = some (.cells #[.slice A l'.length c, _] _ _)
  rw [hl]
  exact h.hd
def ptrP (g : Nat) : Option Nat → Value
  | none => .pointer none
  | some i => .pointer (some ⟨g, i * 3, none⟩)

set_option maxRecDepth 20000 in
set_option maxHeartbeats 1600000 in
theorem kfind_on {w : World} {L U D g c a : Nat} {q : Po} {A : Option Addr} (h : Ko w L U D q A g c) (hm : q.l.length ≤ 40) : Calls Try.prog 22 #[.pointer (some ⟨D, 0, none⟩), .int .u8 (a : Int)] w fun e w' => e = .returned (ptrP g (findP q.l a)) ∧ w' = w := by
  have HC := Lib.hid h
  have HF1 : Hid (∀ i, i < q.l.length → (pe q.l i).a = a → (∀ k, k < i → (pe q.l k).a ≠ a) → ptrP g (findP q.l a) = .pointer (some ⟨g, i * 3, none⟩)) := Lib.hid (fun i h1 h2 h3 => by rw [findP_first h1 h2 h3]; rfl)
  have HF2 : Hid ((∀ k, k < q.l.length → (pe q.l k).a ≠ a) → ptrP g (findP q.l a) = .pointer none) := Lib.hid (fun h1 => by rw [findP_all h1]; rfl)
  have c0 := h.c0
  clear h
  generalize ptrP g (findP q.l a) = r at *
  obtain ⟨n, hn⟩ : ∃ n, q.l.length = n := ⟨_, rfl⟩
  rw [hn] at c0
  have HN := Lib.hid hn
  go_enter Try.func22, Try.ntmps22
  go_wp2
  go_loopw [11] (fun j wr => ∃ (i : Nat), i ≤ n ∧ j = .int .i64 i ∧ Hid (∀ k, k < i → (pe q.l k).a ≠ a) ∧ wr = w) (fun j _ => n - (intOf j).toNat)
  case atStart => exact ⟨0, Nat.zero_le _, rfl, Lib.hid (fun k hk => by omega), rfl⟩
  case round =>
    obtain ⟨i, hi, rfl, HK, hw⟩ := hrel
    subst hw
    by_cases hlt : i < n
    · have hlt1 : (i : Int) < (n : Int) := by omega
      obtain ⟨rfl, _, _, hrow⟩ := HC.out.row (by rw [HN.out]; omega)
      have hci := hrow.cell (k := i) (by rw [HN.out]; exact hlt)
      have e0 := hci.1
      have hcap := hrow.cap
      rw [HN.out] at hcap
      clear hci hrow
      by_cases ha : (pe q.l i).a = a
      · have ha' : (((pe q.l i).a : Nat) : Int) = (a : Int) := by omega
        have HR := Lib.hid (HF1.out i (by rw [HN.out]; exact hlt) ha HK.out)
        clear ha
        go_wp2
        go_ret
        exact ⟨by rw [HR.out]; rfl, rfl⟩
      · have ha' : ((((pe q.l i).a : Nat) : Int) == (a : Int)) = false := by simp; omega
        have HK2 : Hid (∀ k, k < i + 1 → (pe q.l k).a ≠ a) := Lib.hid (fun k hk => by
          by_cases hki : k = i
          · subst hki; exact ha
          · exact HK.out k (by omega))
        clear ha
        go_wp2
        go_roundw
        case rel => exact ⟨i + 1, by omega, by go_num, HK2, trivial⟩
        case measure => simp [intOf]; omega
    · have hkn : n = i := by omega
      subst hkn
      have HR := Lib.hid (HF2.out (by rw [HN.out]; exact HK.out))
      go_wp2
      go_ret
      exact ⟨by rw [HR.out]; rfl, rfl⟩

theorem k64_diff {s n : Int} (hs : I64 s) (hn : I64 n) (h : s ≤ n) : (n % 18446744073709551616 - s % 18446744073709551616) % 18446744073709551616 = n - s := by
  rw [← Int.sub_emod]
  obtain ⟨h1, h2⟩ := hs
  obtain ⟨h3, h4⟩ := hn
  exact Int.emod_eq_of_lt (by omega) (by omega)
set_option maxRecDepth 20000 in
set_option maxHeartbeats 1600000 in
theorem kdue_on {w : World} {g i : Nat} {e : Pe} {n : Int} (hd : w.cell? ⟨g, i * 3 + 1, none⟩ = some (.bool e.d)) (ht : w.cell? ⟨g, i * 3 + 2, none⟩ = some (.int .i64 e.t)) (hs : I64 e.t) (hn : I64 n) :
    Calls Try.prog 27 #[.pointer (some ⟨g, i * 3, none⟩), .int .i64 n] w fun r w' => r = .returned (.bool (e.due n)) ∧ w' = w := by
  unfold Pe.due
  obtain ⟨a, d, s⟩ := e
  simp only at hd ht hs ⊢
  cases d with
  | false =>
    clear hs hn
    go_enter Try.func27, Try.ntmps27
    go_wp2
    go_ret
    exact ⟨rfl, rfl⟩
  | true =>
    by_cases h : n < s
    · have hdd : Hid (decide (s + 20 ≤ n) = false) := by show _ = _; simp; omega
      generalize decide (s + 20 ≤ n) = r at *
      have hle : ¬ s ≤ n := by omega
      clear hs hn h
      go_enter Try.func27, Try.ntmps27
      go_wp2
      go_ret
      exact ⟨by rw [hdd.out]; rfl, rfl⟩
    · have hu := k64_diff hs hn (by omega)
      have hle : s ≤ n := by omega
      obtain ⟨u1, h1⟩ : ∃ u1, n % 18446744073709551616 = u1 := ⟨_, rfl⟩
      obtain ⟨u2, h2⟩ : ∃ u2, s % 18446744073709551616 = u2 := ⟨_, rfl⟩
      rw [h1, h2] at hu
      obtain ⟨d, hd2⟩ : ∃ d, n - s = d := ⟨_, rfl⟩
      rw [hd2] at hu
      have hw1 : IntKind.u64.wrap n = u1 := by rw [← h1]; rfl
      have hw2 : IntKind.u64.wrap s = u2 := by rw [← h2]; rfl
      have hw3 : IntKind.u64.wrap (u1 - u2) = d := by rw [← hu]; rfl
      have he : decide (s + 20 ≤ n) = decide (20 ≤ d) := by
        have : (s + 20 ≤ n) ↔ 20 ≤ d := by omega
        simp [this]
      rw [he]
      clear he hs hn hd2 h
      go_enter Try.func27, Try.ntmps27
      go_wp2
      go_ret
      exact ⟨rfl, rfl⟩

set_option maxRecDepth 20000 in
set_option maxHeartbeats 1600000 in
theorem kis_on {w : World} {L U D g c a : Nat} {q : Po} {A : Option Addr} (h : Ko w L U D q A g c) (hm : q.l.length ≤ 40) : Calls Try.prog 19 #[.pointer (some ⟨D, 0, none⟩), .int .u8 (a : Int)] w fun e w' => e = .returned (.bool (isP q a)) ∧ w' = w := by
  have HP : Hid (isP q a = match findP q.l a with | none => false | some i => !(pe q.l i).d) := rfl
  generalize isP q a = r at *
  go_enter Try.func19, Try.ntmps19
  go_wp2_with fail
  refine (kfind_on h hm).mono ?_
  rintro e x ⟨rfl, rfl⟩
  have H := Lib.hid h
  clear h
  cases hf : findP q.l a with
  | none =>
    rw [hf] at HP
    have HR : Hid (r = false) := HP
    clear HP hf
    simp only [ptrP]
    go_wp2
    go_ret
    exact ⟨by rw [HR.out]; rfl, rfl⟩
  | some i =>
    rw [hf] at HP
    have HR : Hid (r = !(pe q.l i).d) := HP
    obtain ⟨hil, _⟩ := findP_some hf
    obtain ⟨rfl, _, _, hrow⟩ := H.out.row (by omega)
    have e0 := (hrow.cell hil).2.1
    clear HP hf hrow hm hil
    simp only [ptrP]
    go_wp2
    go_ret
    exact ⟨by rw [HR.out]; rfl, rfl⟩

/-- A whole one is written into its place. -/
theorem Prow.whole {w : World} {g c k : Nat} {T : TypeId} {l : List Pe} {e : Pe} (h : Prow w g c T l) (hk : k < l.length) :
    Prow (w.setCells g (k * 3) (pc1 e)) g c T (l.set k e) ∧ Ch [g] w (w.setCells g (k * 3) (pc1 e)) ∧ w.there g (k * 3) 3 := by
  obtain ⟨cur, k1, k2, k3⟩ := h.ex
  have hc := h.cap
  obtain ⟨h1, cur', h2, h3, h4, h5⟩ := setCells_heap (pc1 e) (k * 3) w cur k1
  have hlen : (pc1 e).length = 3 := rfl
  rw [hlen] at h4 h5
  have hsz : k * 3 + 3 ≤ cur.size := by rw [k2]; omega
  refine ⟨⟨⟨cur', h2, by rw [h3, k2], fun j hj => ?_⟩, by simpa using hc, h.max⟩, h1, fun j hj => ?_⟩
  · rw [List.length_set] at hj
    rw [pe_set hk]
    split
    · rename_i hkj
      subst hkj
      refine ⟨?_, ?_, ?_⟩
      · have := h5 0 (by omega) hsz; simpa [pc1] using this
      · have := h5 1 (by omega) hsz; simpa [pc1] using this
      · have := h5 2 (by omega) hsz; simpa [pc1] using this
    · rename_i hkj
      obtain ⟨q1, q2, q3⟩ := k3 j hj
      exact ⟨by rw [h4 _ (by omega)]; exact q1, by rw [h4 _ (by omega)]; exact q2, by rw [h4 _ (by omega)]; exact q3⟩
  · refine ⟨?_, h.fz _⟩
    simp [World.cell?, k1]
    omega

theorem info_member : (Try.prog.info? 58).map (fun i => (i.zero, i.size, i.bytes)) = some (some (.agg #[.int .u8 0, .bool false, .int .i64 0]), 3, 16) := by kernel_rfl
theorem member_size : (Try.prog.info? 58).map (·.size) = some 3 := by kernel_rfl
def aliveQ (p : Po) (a : Nat) : Po × Int :=
  match findP p.l a with
  | none => (p, 6)
  | some i => ({ p with l := p.l.set i ⟨(pe p.l i).a, false, 0⟩ }, 0)
set_option maxRecDepth 20000 in
set_option maxHeartbeats 1600000 in
theorem kalive_on {w : World} {L U D g c a : Nat} {q : Po} {A : Option Addr} (h : Ko w L U D q A g c) (hm : q.l.length ≤ 40) : Calls Try.prog 17 #[.pointer (some ⟨D, 0, none⟩), .int .u8 (a : Int)] w fun e w' =>
    e = .returned (.int .i64 (aliveQ q a).2) ∧ Ko w' L U D (aliveQ q a).1 A g c ∧ Cr L U w w' := by
  have HP : Hid (aliveQ q a = match findP q.l a with | none => (q, 6) | some i => ({ q with l := q.l.set i ⟨(pe q.l i).a, false, 0⟩ }, 0)) := rfl
  generalize aliveQ q a = r at *
  go_enter Try.func17, Try.ntmps17
  go_wp2_with fail
  refine (kfind_on h hm).mono ?_
  rintro e x ⟨rfl, rfl⟩
  have H := Lib.hid h
  clear h
  cases hf : findP q.l a with
  | none =>
    rw [hf] at HP
    have HR : Hid (r = (q, 6)) := HP
    clear HP hf
    simp only [ptrP]
    go_wp2
    go_ret
    rw [HR.out]
    exact ⟨rfl, H.out, Cr.refl _ _ _⟩
  | some i =>
    rw [hf] at HP
    have HR : Hid (r = ({ q with l := q.l.set i ⟨(pe q.l i).a, false, 0⟩ }, 0)) := HP
    obtain ⟨hil, hfa⟩ := findP_some hf
    obtain ⟨rfl, _, _, hrow⟩ := H.out.row (by omega)
    obtain ⟨s1, s2, s3⟩ := hrow.whole (e := ⟨(pe q.l i).a, false, 0⟩) hil
    have HE := Lib.hid (H.out.turned (by omega) s2 s1 (by simp))
    have HT := Lib.hid s3
    have HFA := Lib.hid hfa
    clear HP hf hrow hm hil s1 s2 s3 hfa
    simp only [ptrP]
    rw [← HFA.out]
    go_wp2_with (refine wpList_store_mid rfl 58 (.tmp 14) (.tmp 13) rfl g (i * 3) (pc1 ⟨(pe q.l i).a, false, 0⟩).toArray rfl rfl HT.out member_size (by simp [pc1, Value.oneCell']) ?_)
    go_ret
    rw [HR.out]
    exact ⟨rfl, HE.out⟩

set_option maxRecDepth 20000 in
set_option maxHeartbeats 1600000 in
theorem kdead_on {w : World} {L U D g c a : Nat} {q : Po} {now : Int} {A : Option Addr} (h : Ko w L U D q A g c) (hm : q.l.length ≤ 40) : Calls Try.prog 15 #[.pointer (some ⟨D, 0, none⟩), .int .u8 (a : Int), .int .i64 now] w fun e w' =>
    e = .returned (.int .i64 (deadP q a now).2) ∧ Ko w' L U D (deadP q a now).1 A g c ∧ Cr L U w w' := by
  have HP : Hid (deadP q a now = match findP q.l a with | none => (q, 6) | some i => ({ q with l := q.l.set i { pe q.l i with d := true, t := now } }, 0)) := rfl
  generalize deadP q a now = r at *
  go_enter Try.func15, Try.ntmps15
  go_wp2_with fail
  refine (kfind_on h hm).mono ?_
  rintro e x ⟨rfl, rfl⟩
  have H := Lib.hid h
  clear h
  cases hf : findP q.l a with
  | none =>
    rw [hf] at HP
    have HR : Hid (r = (q, 6)) := HP
    clear HP hf
    simp only [ptrP]
    go_wp2
    go_ret
    rw [HR.out]
    exact ⟨rfl, H.out, Cr.refl _ _ _⟩
  | some i =>
    rw [hf] at HP
    have HR : Hid (r = ({ q with l := q.l.set i { pe q.l i with d := true, t := now } }, 0)) := HP
    obtain ⟨hil, hfa⟩ := findP_some hf
    obtain ⟨rfl, _, _, hrow⟩ := H.out.row (by omega)
    obtain ⟨s1, s2, s3⟩ := hrow.whole (e := { pe q.l i with d := true, t := now }) hil
    have HE := Lib.hid (H.out.turned (by omega) s2 s1 (by simp))
    have HT := Lib.hid s3
    have HFA := Lib.hid hfa
    clear HP hf hrow hm hil s1 s2 s3 hfa
    simp only [ptrP]
    rw [← HFA.out]
    go_wp2_with (refine wpList_store_mid rfl 58 (.tmp 17) (.tmp 16) rfl g (i * 3) (pc1 { pe q.l i with d := true, t := now }).toArray rfl rfl HT.out member_size (by simp [pc1, Value.oneCell']) ?_)
    go_ret
    rw [HR.out]
    exact ⟨rfl, HE.out⟩
end Go.Proofs.Ytkghbdikbbeoaaa
