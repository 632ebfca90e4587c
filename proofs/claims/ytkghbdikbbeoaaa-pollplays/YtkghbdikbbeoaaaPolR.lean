/-
  The document's poll (lamplightref09.Poll) in memory; its calls, as they stand: what they answer.
-/
import Derived.Test.YtkghbdikbbeoaaaPolMem
import Derived.Deep.DeepCutAuto
namespace Go.Proofs.Ytkghbdikbbeoaaa
set_option linter.unusedVariables false
set_option linter.unusedSimpArgs false
open Go.RowKit

abbrev r9cs (p : Po) (V : Value) : Array Value := #[V, .int .i64 ((p.nx : Int) - 1)]
/-- The document's poll at R, from B on. -/
structure R9p (w : World) (B R : Nat) (p : Po) : Prop where
  le : B ≤ R
  at_ : ∃ A g c, w.heap[R]? = some (.cells (r9cs p (.slice A p.l.length c)) 40 (0, 0)) ∧ (0 < p.l.length → A = some ⟨g, 0, none⟩ ∧ B ≤ g ∧ Prow w g c 42 p.l)
theorem R9p.ft {w w' : World} {B B' R : Nat} {Ts : List TypeId} {p : Po} (h : R9p w B R p) (hc : Ft B' Ts w w') (h1 : 40 ∉ Ts) (h2 : 42 ∉ Ts) : R9p w' B R p := by
  obtain ⟨A, g, c, k1, k2⟩ := h.at_
  exact ⟨h.le, A, g, c, hc.keep k1 h1, fun hl => ⟨(k2 hl).1, (k2 hl).2.1, (k2 hl).2.2.ft hc h2⟩⟩
theorem R9p.step {w w' : World} {B R : Nat} {p : Po} (h : R9p w B R p) (hb : Below w.heap.size w w') : R9p w' B R p := h.ft (B' := 0) (Ts := []) (Ft.of_below hb) (by simp) (by simp)
/-- What is read of it. -/
structure R9c (w : World) (B R : Nat) (p : Po) (A : Option Addr) (g c : Nat) : Prop where
  c0 : w.cell? ⟨R, 0, none⟩ = some (.slice A p.l.length c)
  c1 : w.cell? ⟨R, 1, none⟩ = some (.int .i64 ((p.nx : Int) - 1))
  f0 : w.frozen? ⟨R, 0, none⟩ = false
  f1 : w.frozen? ⟨R, 1, none⟩ = false
  row : 0 < p.l.length → A = some ⟨g, 0, none⟩ ∧ B ≤ g ∧ Prow w g c 42 p.l
theorem R9p.rc {w : World} {B R : Nat} {p : Po} (h : R9p w B R p) : ∃ A g c, R9c w B R p A g c := by
  obtain ⟨A, g, c, k1, k2⟩ := h.at_
  exact ⟨A, g, c, by simp [World.cell?, k1], by simp [World.cell?, k1], by simp [World.frozen?, k1], by simp [World.frozen?, k1], k2⟩

set_option maxRecDepth 20000 in
set_option maxHeartbeats 1600000 in
theorem rfind_on {w : World} {B R a : Nat} {p : Po} (h : R9p w B R p) (hm : p.l.length ≤ 40) : Calls Try.prog 23 #[.pointer (some ⟨R, 0, none⟩), .int .u8 (a : Int)] w fun e w' => e = .returned (.int .i64 (idxP (findP p.l a))) ∧ w' = w := by
  obtain ⟨A, g, c, hc⟩ := h.rc
  have HC := Lib.hid hc
  have HF1 : Hid (∀ i, i < p.l.length → (pe p.l i).a = a → (∀ k, k < i → (pe p.l k).a ≠ a) → idxP (findP p.l a) = (i : Int)) := Lib.hid (fun i h1 h2 h3 => by rw [findP_first h1 h2 h3]; rfl)
  have HF2 : Hid ((∀ k, k < p.l.length → (pe p.l k).a ≠ a) → idxP (findP p.l a) = -1) := Lib.hid (fun h1 => by rw [findP_all h1]; rfl)
  have c0 := hc.c0
  clear h hc
  generalize idxP (findP p.l a) = r at *
  obtain ⟨n, hn⟩ : ∃ n, p.l.length = n := ⟨_, rfl⟩
  rw [hn] at c0
  have HN := Lib.hid hn
  go_enter Try.func23, Try.ntmps23
  go_wp2
  go_loopw [5] (fun j wr => ∃ (i : Nat), i ≤ n ∧ j = .int .i64 i ∧ Hid (∀ k, k < i → (pe p.l k).a ≠ a) ∧ wr = w) (fun j _ => n - (intOf j).toNat)
  case atStart => exact ⟨0, Nat.zero_le _, rfl, Lib.hid (fun k hk => by omega), rfl⟩
  case round =>
    obtain ⟨i, hi, rfl, HK, hw⟩ := hrel
    subst hw
    by_cases hlt : i < n
    · have hlt1 : (i : Int) < (n : Int) := by omega
      obtain ⟨rfl, _, hrow⟩ := HC.out.row (by rw [HN.out]; omega)
      have hci := hrow.cell (k := i) (by rw [HN.out]; exact hlt)
      have e0 := hci.1
      have hcap := hrow.cap
      rw [HN.out] at hcap
      clear hci hrow
      by_cases ha : (pe p.l i).a = a
      · have ha' : (((pe p.l i).a : Nat) : Int) = (a : Int) := by omega
        have HR := Lib.hid (HF1.out i (by rw [HN.out]; exact hlt) ha HK.out)
        clear ha
        go_wp2
        go_ret
        exact ⟨by rw [HR.out]; rfl, rfl⟩
      · have ha' : ((((pe p.l i).a : Nat) : Int) == (a : Int)) = false := by simp; omega
        have HK2 : Hid (∀ k, k < i + 1 → (pe p.l k).a ≠ a) := Lib.hid (fun k hk => by
          by_cases hki : k = i
          · subst hki; exact ha
          · exact HK.out k (by omega))
        clear ha
        go_wp2
        go_roundw
        case rel => exact ⟨i + 1, by omega, by go_num, HK2, trivial⟩
        case measure => simp [intOf]; omega
    · have hkn : n = i := by omega
      subst hkn
      have HR := Lib.hid (HF2.out (by rw [HN.out]; exact HK.out))
      go_wp2
      go_ret
      exact ⟨by rw [HR.out]; rfl, rfl⟩

theorem u64_diff {s n : Int} (hs : I64 s) (hn : I64 n) (h : s ≤ n) : (n % 18446744073709551616 - s % 18446744073709551616) % 18446744073709551616 = n - s := by
  rw [← Int.sub_emod]
  obtain ⟨h1, h2⟩ := hs
  obtain ⟨h3, h4⟩ := hn
  exact Int.emod_eq_of_lt (by omega) (by omega)
def lateB (s n : Int) : Bool := decide (s + 20 ≤ n)
set_option maxHeartbeats 1600000 in
theorem rlate_on {w : World} {s n : Int} (hs : I64 s) (hn : I64 n) : Calls Try.prog 26 #[.int .i64 s, .int .i64 n] w fun e w' => e = .returned (.bool (lateB s n)) ∧ w' = w := by
  unfold lateB
  by_cases h : n < s
  · have hd : Hid (decide (s + 20 ≤ n) = false) := by show _ = _; simp; omega
    generalize decide (s + 20 ≤ n) = r at *
    go_enter Try.func26, Try.ntmps26
    go_wp2
    go_ret
    exact ⟨by rw [hd.out]; rfl, rfl⟩
  · have hu := u64_diff hs hn (by omega)
    obtain ⟨u1, h1⟩ : ∃ u1, n % 18446744073709551616 = u1 := ⟨_, rfl⟩
    obtain ⟨u2, h2⟩ : ∃ u2, s % 18446744073709551616 = u2 := ⟨_, rfl⟩
    rw [h1, h2] at hu
    obtain ⟨d, hd⟩ : ∃ d, n - s = d := ⟨_, rfl⟩
    rw [hd] at hu
    have hw1 : IntKind.u64.wrap n = u1 := by rw [← h1]; rfl
    have hw2 : IntKind.u64.wrap s = u2 := by rw [← h2]; rfl
    have hw3 : IntKind.u64.wrap (u1 - u2) = d := by rw [← hu]; rfl
    have he : decide (s + 20 ≤ n) = decide (20 ≤ d) := by
      have : (s + 20 ≤ n) ↔ 20 ≤ d := by omega
      simp [this]
    rw [he]
    clear he hs hn hd
    go_enter Try.func26, Try.ntmps26
    go_wp2
    go_ret
    exact ⟨rfl, rfl⟩

set_option maxRecDepth 20000 in
set_option maxHeartbeats 1600000 in
theorem ris_on {w : World} {B R a : Nat} {p : Po} (h : R9p w B R p) (hm : p.l.length ≤ 40) : Calls Try.prog 20 #[.pointer (some ⟨R, 0, none⟩), .int .u8 (a : Int)] w fun e w' => e = .returned (.bool (isP p a)) ∧ w' = w := by
  have HP : Hid (isP p a = match findP p.l a with | none => false | some i => !(pe p.l i).d) := rfl
  generalize isP p a = r at *
  go_enter Try.func20, Try.ntmps20
  go_wp2_with fail
  refine (rfind_on h hm).mono ?_
  rintro e x ⟨rfl, rfl⟩
  have H := Lib.hid h
  clear h
  cases hf : findP p.l a with
  | none =>
    rw [hf] at HP
    have HR : Hid (r = false) := HP
    clear HP hf
    simp only [idxP]
    go_wp2
    go_ret
    exact ⟨by rw [HR.out]; rfl, rfl⟩
  | some i =>
    rw [hf] at HP
    have HR : Hid (r = !(pe p.l i).d) := HP
    obtain ⟨hil, _⟩ := findP_some hf
    obtain ⟨A, g, c, hc⟩ := H.out.rc
    obtain ⟨rfl, _, hrow⟩ := hc.row (by omega)
    have c0 := hc.c0
    have e0 := (hrow.cell hil).2.1
    have hcap := hrow.cap
    obtain ⟨n, hn⟩ : ∃ n, p.l.length = n := ⟨_, rfl⟩
    rw [hn] at c0 hcap hil
    have hlt : (i : Int) < (n : Int) := by omega
    clear HP hf hc hrow hm hil
    simp only [idxP]
    go_wp2
    go_ret
    exact ⟨by rw [HR.out]; rfl, rfl⟩

set_option maxRecDepth 20000 in
set_option maxHeartbeats 1600000 in
theorem ralive_on {w : World} {B R a : Nat} {p : Po} (h : R9p w B R p) (hm : p.l.length ≤ 40) : Calls Try.prog 18 #[.pointer (some ⟨R, 0, none⟩), .int .u8 (a : Int)] w fun e w' => e = .returned (.int .i64 (aliveP p a).2) ∧ R9p w' B R (aliveP p a).1 ∧ Ft B [40, 42] w w' := by
  have HP : Hid (aliveP p a = match findP p.l a with | none => (p, 6) | some i => ({ p with l := p.l.set i { pe p.l i with d := false } }, 0)) := rfl
  generalize aliveP p a = r at *
  go_enter Try.func18, Try.ntmps18
  go_wp2_with fail
  refine (rfind_on h hm).mono ?_
  rintro e x ⟨rfl, rfl⟩
  have H := Lib.hid h
  clear h
  cases hf : findP p.l a with
  | none =>
    rw [hf] at HP
    have HR : Hid (r = (p, 6)) := HP
    clear HP hf
    simp only [idxP]
    go_wp2
    go_ret
    rw [HR.out]
    exact ⟨rfl, H.out, Ft.refl _ _ _⟩
  | some i =>
    rw [hf] at HP
    have HR : Hid (r = ({ p with l := p.l.set i { pe p.l i with d := false } }, 0)) := HP
    obtain ⟨hil, _⟩ := findP_some hf
    obtain ⟨A, g, c, k1, k2⟩ := H.out.at_
    obtain ⟨rfl, hg, hrow⟩ := k2 (by omega)
    obtain ⟨_, g', _, hc⟩ := H.out.rc
    have c0 : x.cell? ⟨R, 0, none⟩ = some (.slice (some ⟨g, 0, none⟩) p.l.length c) := by simp [World.cell?, k1]
    have e0 := (hrow.cell hil).2.1
    have z0 := hrow.fz (i * 3 + 1)
    have hcap := hrow.cap
    obtain ⟨s1, s2⟩ := hrow.setD hil false
    have hft : Ft B [40, 42] x (x.setCell ⟨g, i * 3 + 1, none⟩ (.bool false)) := Ft.of_ch s2 (fun y hy _ => by
      simp at hy; subst hy
      obtain ⟨cur, q1, _⟩ := hrow.ex
      exact ⟨hg, _, _, _, q1, by simp⟩)
    have HE : Hid (R9p (x.setCell ⟨g, i * 3 + 1, none⟩ (.bool false)) B R { p with l := p.l.set i { pe p.l i with d := false } } ∧ Ft B [40, 42] x (x.setCell ⟨g, i * 3 + 1, none⟩ (.bool false))) := by
      refine ⟨⟨H.out.le, some ⟨g, 0, none⟩, g, c, ?_, fun _ => ⟨rfl, hg, s1⟩⟩, hft⟩
      have hRg : R ≠ g := by
        rintro rfl
        obtain ⟨cur, q1, _⟩ := hrow.ex
        rw [q1] at k1
        injection k1 with k1
        injection k1 with _ k1
        cases k1
      rw [s2.block R (Array.getElem?_eq_some_iff.1 k1).1 (by simpa using hRg)]
      simpa using k1
    obtain ⟨n, hn⟩ : ∃ n, p.l.length = n := ⟨_, rfl⟩
    rw [hn] at c0 hcap hil
    have hlt : (i : Int) < (n : Int) := by omega
    clear HP hf hc hrow hm hil k1 k2 s1 s2 hft
    simp only [idxP]
    go_wp2
    go_ret
    rw [HR.out]
    exact ⟨rfl, HE.out⟩

/-- Its row opened. -/
theorem R9p.opened {w : World} {B R : Nat} {p : Po} (h : R9p w B R p) (hl : 0 < p.l.length) : ∃ g c, w.heap[R]? = some (.cells (r9cs p (.slice (some ⟨g, 0, none⟩) p.l.length c)) 40 (0, 0)) ∧ B ≤ g ∧ Prow w g c 42 p.l ∧ R ≠ g := by
  obtain ⟨A, g, c, k1, k2⟩ := h.at_
  obtain ⟨rfl, hg, hrow⟩ := k2 hl
  refine ⟨g, c, k1, hg, hrow, ?_⟩
  rintro rfl
  obtain ⟨cur, q1, _⟩ := hrow.ex
  rw [q1] at k1
  injection k1 with k1
  injection k1 with _ k1
  cases k1
/-- .. and turned. -/
theorem R9p.turned {w y : World} {B R g c : Nat} {p : Po} {l' : List Pe} (h : R9p w B R p) (k1 : w.heap[R]? = some (.cells (r9cs p (.slice (some ⟨g, 0, none⟩) p.l.length c)) 40 (0, 0))) (hg : B ≤ g) (hrow : Prow w g c 42 p.l) (hRg : R ≠ g)
    (hc : Ch [g] w y) (hy : Prow y g c 42 l') (hl : l'.length = p.l.length) : R9p y B R { p with l := l' } ∧ Ft B [40, 42] w y := by
  refine ⟨⟨h.le, some ⟨g, 0, none⟩, g, c, ?_, fun _ => ⟨rfl, hg, hy⟩⟩, Ft.of_ch hc (fun z hz _ => by
    simp at hz; subst hz
    obtain ⟨cur, q1, _⟩ := hrow.ex
    exact ⟨hg, _, _, _, q1, by simp⟩)⟩
  rw [hc.block R (Array.getElem?_eq_some_iff.1 k1).1 (by simpa using hRg)]
  show w.heap[R]? = some (.cells #[.slice (some ⟨g, 0, none⟩) l'.length c, _] _ _)
  rw [hl]
  exact k1

set_option maxRecDepth 20000 in
set_option maxHeartbeats 1600000 in
theorem rdead_on {w : World} {B R a : Nat} {p : Po} {now : Int} (h : R9p w B R p) (hm : p.l.length ≤ 40) : Calls Try.prog 16 #[.pointer (some ⟨R, 0, none⟩), .int .u8 (a : Int), .int .i64 now] w fun e w' => e = .returned (.int .i64 (deadP p a now).2) ∧ R9p w' B R (deadP p a now).1 ∧ Ft B [40, 42] w w' := by
  have HP : Hid (deadP p a now = match findP p.l a with | none => (p, 6) | some i => ({ p with l := p.l.set i { pe p.l i with d := true, t := now } }, 0)) := rfl
  generalize deadP p a now = r at *
  go_enter Try.func16, Try.ntmps16
  go_wp2_with fail
  refine (rfind_on h hm).mono ?_
  rintro e x ⟨rfl, rfl⟩
  have H := Lib.hid h
  clear h
  cases hf : findP p.l a with
  | none =>
    rw [hf] at HP
    have HR : Hid (r = (p, 6)) := HP
    clear HP hf
    simp only [idxP]
    go_wp2
    go_ret
    rw [HR.out]
    exact ⟨rfl, H.out, Ft.refl _ _ _⟩
  | some i =>
    rw [hf] at HP
    have HR : Hid (r = ({ p with l := p.l.set i { pe p.l i with d := true, t := now } }, 0)) := HP
    obtain ⟨hil, _⟩ := findP_some hf
    obtain ⟨g, c, k1, hg, hrow, hRg⟩ := H.out.opened (by omega)
    have c0 : x.cell? ⟨R, 0, none⟩ = some (.slice (some ⟨g, 0, none⟩) p.l.length c) := by simp [World.cell?, k1]
    have e1 := (hrow.cell hil).2.1
    have e2 := (hrow.cell hil).2.2
    have z1 := hrow.fz (i * 3 + 1)
    have z2 := hrow.fz (i * 3 + 2)
    have hcap := hrow.cap
    obtain ⟨s1, s2⟩ := hrow.setD hil true
    obtain ⟨s3, s4⟩ := s1.setT (k := i) (by simpa using hil) now
    rw [pe_set hil, if_pos rfl, List.set_set] at s3
    have HE : Hid _ := Lib.hid (H.out.turned k1 hg hrow hRg (s2.trans s4) s3 (by simp))
    obtain ⟨n, hn⟩ : ∃ n, p.l.length = n := ⟨_, rfl⟩
    rw [hn] at c0 hcap hil
    have hlt : (i : Int) < (n : Int) := by omega
    have ne1 : ¬ R = g := hRg
    have ne2 : ¬ g = R := fun h => hRg h.symm
    clear HP hf hrow hm hil k1 s1 s2 s3 s4 hRg
    simp only [idxP]
    go_wp2
    go_ret
    rw [HR.out]
    exact ⟨rfl, HE.out⟩

theorem due_late (e : Pe) (now : Int) : e.due now = (e.d && lateB e.t now) := rfl
theorem bestN_succ (l : List Pe) (now : Int) (i : Nat) : bestN l now (i + 1) = if ((pe l i).due now && sooner l i (bestN l now i)) = true then some i else bestN l now i := rfl
def R9NextPost (w : World) (B R : Nat) (p : Po) (now : Int) (e : Ending) (w' : World) : Prop :=
  e = .returned (.tuple #[.int .u8 ((nextP p now).2.1 : Int), .bool (nextP p now).2.2]) ∧ R9p w' B R (nextP p now).1 ∧ Ft B [40, 42] w w'

set_option maxRecDepth 20000 in
set_option maxHeartbeats 6400000 in
theorem rnext_on {w : World} {B R : Nat} {p : Po} {now : Int} (h : R9p w B R p) (hok : p.Ok) (hn : I64 now) : Calls Try.prog 14 #[.pointer (some ⟨R, 0, none⟩), .int .i64 now] w (R9NextPost w B R p now) := by
  have HP : Hid (∀ (e : Ending) w' q a ok, nextP p now = (q, a, ok) → e = .returned (.tuple #[.int .u8 ((a : Nat) : Int), .bool ok]) → R9p w' B R q → Ft B [40, 42] w w' → R9NextPost w B R p now e w') := by
    intro e w' q a ok h1 h2 h3 h4
    unfold R9NextPost
    rw [h1]
    exact ⟨h2, h3, h4⟩
  have HOK := Lib.hid hok
  have HNW := Lib.hid hn
  have H0 := Lib.hid h
  have HF0 : Hid (Ft B [40, 42] w w) := Lib.hid (Ft.refl _ _ _)
  obtain ⟨n, hln⟩ : ∃ n, p.l.length = n := ⟨_, rfl⟩
  have HN := Lib.hid hln
  have HN40 : Hid (n ≤ 40) := Lib.hid (by have := hok.len; omega)
  clear h hok hn hln
  generalize R9NextPost w B R p now = Q at *
  go_enter Try.func14, Try.ntmps14
  go_wp2
  go_loopw [6, 7] (fun bv iv wr => ∃ (i : Nat), i ≤ n ∧ bv = .int .i64 (idxP (bestN p.l now i)) ∧ iv = .int .i64 i ∧ Hid (R9p wr B R p) ∧ Hid (Ft B [40, 42] w wr)) (fun _ iv _ => n - (intOf iv).toNat)
  case atStart => exact ⟨0, Nat.zero_le _, rfl, rfl, H0, HF0⟩
  case round =>
    clear H0 HF0
    obtain ⟨i, hi, rfl, rfl, H, HF⟩ := hrel
    rename World => x
    by_cases hlt : i < n
    · have hil : i < p.l.length := by rw [HN.out]; exact hlt
      have hlt1 : (i : Int) < (n : Int) := by omega
      obtain ⟨g, c, k1, hg, hrow, hRg⟩ := H.out.opened (by omega)
      have c0 : x.cell? ⟨R, 0, none⟩ = some (.slice (some ⟨g, 0, none⟩) n c) := by rw [← HN.out]; simp [World.cell?, k1]
      have e1 := (hrow.cell hil).2.1
      have e2 := (hrow.cell hil).2.2
      have hcap : n ≤ c := by have := hrow.cap; rw [HN.out] at this; exact this
      have HT := Lib.hid (HOK.out.ts _ (pe_mem hil))
      have HPR := Lib.hid hrow
      have HB : Hid (bestN p.l now (i + 1) = if ((pe p.l i).due now && sooner p.l i (bestN p.l now i)) = true then some i else bestN p.l now i) := Lib.hid (bestN_succ p.l now i)
      have HBL : Hid (∀ b, bestN p.l now i = some b → b < n) := Lib.hid (fun b hb => by have := bestN_lt hb; omega)
      rw [due_late] at HB
      generalize bestN p.l now i = bo at *
      generalize hbe : bestN p.l now (i + 1) = bn at *
      have HBE := Lib.hid hbe
      clear hbe
      have hn40 := HN40.out
      obtain ⟨ti, hti⟩ : ∃ ti, (pe p.l i).t = ti := ⟨_, rfl⟩
      obtain ⟨di, hdi⟩ : ∃ di, (pe p.l i).d = di := ⟨_, rfl⟩
      rw [hti] at e2 HT HB
      rw [hdi] at e1 HB
      have HTI := Lib.hid hti
      clear k1 hg hrow hRg hti hdi hil
      go_wp2_with fail
      refine (rlate_on HT.out HNW.out).mono ?_
      rintro e y ⟨rfl, rfl⟩
      obtain ⟨du, hdu⟩ : ∃ du, lateB ti now = du := ⟨_, rfl⟩
      rw [hdu] at HB ⊢
      clear hdu
      obtain ⟨sn, hsn⟩ : ∃ sn, sooner p.l i bo = sn := ⟨_, rfl⟩
      rw [hsn] at HB
      have HSN := Lib.hid hsn
      clear hsn
      go_upto_region 6 with fail
      go_cut [63] (fun v z => v = .bool (di && du && sn) ∧ Hid (R9p z B R p) ∧ Hid (Ft B [40, 42] w z))
      case first =>
        have HD := Lib.hid (drew_below y)
        replace H := Lib.hid (H.out.step HD.out)
        replace HF := Lib.hid (HF.out.step HD.out)
        replace HPR := Lib.hid (HPR.out.step HD.out)
        clear HD
        cases bo with
        | none =>
          refine region_plan [(true, 0), (true, 1), (true, 2), (true, 3), (true, 4), (true, 5), (true, 6), (true, 7), (true, 8), (true, 9), (true, 10), (true, 11), (true, 12), (true, 13), (true, 14), (true, 15), (true, 16), (true, 17), (true, 18), (true, 19), (true, 20), (true, 21), (true, 22), (true, 23), (true, 24), (true, 25), (true, 26), (true, 27), (true, 28), (true, 29), (true, 30), (true, 31), (true, 32), (true, 33)]
            (fun z => z.cell? ⟨R, 0, none⟩ = some (.slice (some ⟨g, 0, none⟩) n c) ∧ z.cell? ⟨g, i * 3 + 1, none⟩ = some (.bool di) ∧ z.cell? ⟨g, i * 3 + 2, none⟩ = some (.int .i64 ti)) (by kernel_rfl) (by kernel_rfl) (by kernel_rfl) rfl ⟨c0, e1, e2⟩ ?_
          clear c0 e1 e2
          generalize y.drew = y1 at *
          have hsn : sn = true := HSN.out.symm
          subst hsn
          simp only [idxP]
          cases di <;> cases du
          all_goals
            iterate 34 (first | (refine Plan.take (v := ?_) rfl (by rfl) ?_ ?_; rotate_left 1; (focus (intro x hx; go_simp <;> (first | with_reducible rfl | rw [if_pos (by omega)]))); simp only [Act.put, List.setIfInBounds_toArray, List.set_cons_zero, List.set_cons_succ]) | (refine Plan.skip rfl (by rfl) ?_; simp only [Act.put, List.setIfInBounds_toArray, List.set_cons_zero, List.set_cons_succ]))
            refine Plan.done ?_
            go_wp2
            go_meet
            case rel => exact ⟨rfl, H, HF⟩
        | some b =>
          have hbn := HBL.out b rfl
          have hbl : b < p.l.length := by rw [HN.out]; exact hbn
          have hbn1 : (b : Int) < (n : Int) := by omega
          have f2 : y.drew.cell? ⟨g, b * 3 + 2, none⟩ = some (.int .i64 (pe p.l b).t) := (HPR.out.cell hbl).2.2
          refine region_plan [(true, 0), (true, 1), (true, 2), (true, 3), (true, 4), (true, 5), (true, 6), (true, 7), (true, 8), (true, 9), (true, 10), (true, 11), (true, 12), (true, 13), (true, 14), (true, 15), (true, 16), (true, 17), (true, 18), (true, 19), (true, 20), (true, 21), (true, 22), (true, 23), (true, 24), (true, 25), (true, 26), (true, 27), (true, 28), (true, 29), (true, 30), (true, 31), (true, 32), (true, 33)]
            (fun z => z.cell? ⟨R, 0, none⟩ = some (.slice (some ⟨g, 0, none⟩) n c) ∧ z.cell? ⟨g, i * 3 + 1, none⟩ = some (.bool di) ∧ z.cell? ⟨g, i * 3 + 2, none⟩ = some (.int .i64 ti) ∧ z.cell? ⟨g, b * 3 + 2, none⟩ = some (.int .i64 (pe p.l b).t)) (by kernel_rfl) (by kernel_rfl) (by kernel_rfl) rfl ⟨c0, e1, e2, f2⟩ ?_
          clear c0 e1 e2 f2
          generalize y.drew = y1 at *
          obtain ⟨tb, htb⟩ : ∃ tb, (pe p.l b).t = tb := ⟨_, rfl⟩
          have hsn : sn = decide (ti < tb) := by rw [← HSN.out, ← HTI.out, ← htb]; rfl
          subst hsn
          rw [htb]
          clear htb HSN
          simp only [idxP]
          clear hbl hbn HBL
          cases di <;> cases du
          all_goals
            iterate 34 (first | (refine Plan.take (v := ?_) rfl (by rfl) ?_ ?_; rotate_left 1; (focus (intro x hx; go_simp <;> (first | with_reducible rfl | rw [if_pos (by omega)]))); simp only [Act.put, List.setIfInBounds_toArray, List.set_cons_zero, List.set_cons_succ]) | (refine Plan.skip rfl (by rfl) ?_; simp only [Act.put, List.setIfInBounds_toArray, List.set_cons_zero, List.set_cons_succ]))
            refine Plan.done ?_
            go_wp2
            go_meet
            case rel => exact ⟨rfl, H, HF⟩
      case rest =>
        clear c0 e1 e2 H HF HPR HT
        obtain ⟨rfl, H, HF⟩ := hcut
        rename World => z
        cases hcc : (di && du && sn) with
        | true =>
          have HBN : Hid (idxP (bestN p.l now (i + 1)) = (i : Int)) := by show _ = _; rw [HBE.out, HB.out, hcc, if_pos rfl]; rfl
          clear hcc HB
          go_wp2
          go_roundw
          case rel => exact ⟨i + 1, by omega, by rw [HBN.out], by go_num, H, HF⟩
          case measure => simp [intOf]; omega
        | false =>
          have HBN : Hid (idxP (bestN p.l now (i + 1)) = idxP bo) := by show _ = _; rw [HBE.out, HB.out, hcc]; rfl
          clear hcc HB
          go_wp2
          go_roundw
          case rel => exact ⟨i + 1, by omega, by rw [HBN.out], by go_num, H, HF⟩
          case measure => simp [intOf]; omega
    · have hkn : n = i := by omega
      subst hkn
      have hn40 := HN40.out
      cases hb : bestN p.l now n with
      | some b =>
        have hbn := bestN_lt hb
        have hbl : b < p.l.length := by rw [HN.out]; exact hbn
        have hbn1 : (b : Int) < (n : Int) := by omega
        obtain ⟨g, c, k1, hg, hrow, hRg⟩ := H.out.opened (by omega)
        have c0 : x.cell? ⟨R, 0, none⟩ = some (.slice (some ⟨g, 0, none⟩) n c) := by rw [← HN.out]; simp [World.cell?, k1]
        have e0 := (hrow.cell hbl).1
        have e2 := (hrow.cell hbl).2.2
        have z2 := hrow.fz (b * 3 + 2)
        have hcap : n ≤ c := by have := hrow.cap; rw [HN.out] at this; exact this
        obtain ⟨s1, s2⟩ := hrow.setT hbl now
        have HE := Lib.hid (H.out.turned k1 hg hrow hRg s2 s1 (by simp))
        have HX : Hid (nextP p now = ({ p with l := p.l.set b { pe p.l b with t := now } }, (pe p.l b).a, true)) := by show _ = _; unfold nextP; rw [HN.out, hb]
        have ne1 : ¬ R = g := hRg
        have ne2 : ¬ g = R := fun h => hRg h.symm
        clear hb k1 hg hrow hRg s1 s2 hbl H
        simp only [idxP]
        go_wp2
        exact HP.out _ _ _ _ _ HX.out rfl HE.out.1 (HF.out.trans HE.out.2)
      | none =>
        have HBN := Lib.hid hb
        clear hb
        obtain ⟨A, g, c, hc⟩ := H.out.rc
        have c0 := hc.c0
        rw [HN.out] at c0
        clear hc
        simp only [idxP]
        go_wp2
        go_loopw [9] (fun kv wr => ∃ (j : Nat), j ≤ n ∧ kv = .int .i64 ((j : Int) + 1) ∧ Hid (seekN p.l p.nx j = none) ∧ Hid (R9p wr B R p) ∧ Hid (Ft B [40, 42] w wr)) (fun kv _ => n + 1 - (intOf kv).toNat)
        case atStart => exact ⟨0, Nat.zero_le _, rfl, Lib.hid rfl, H, HF⟩
        case round =>
          clear H HF
          obtain ⟨j, hj, rfl, HS, H, HF⟩ := hrel
          rename World => y
          by_cases hjn : j < n
          · have hjn1 : (j : Int) + 1 ≤ (n : Int) := by omega
            have hn0 : 0 < n := by omega
            have hnx : p.nx ≤ n := by have := HOK.out.nx; rw [HN.out] at this; exact this
            obtain ⟨i, hi⟩ : ∃ i, (p.nx + j) % n = i := ⟨_, rfl⟩
            have hin : i < n := by rw [← hi]; exact Nat.mod_lt _ hn0
            have hin1 : (i : Int) < (n : Int) := by omega
            have hsum : IntKind.i64.wrap ((p.nx : Int) + (j : Int)) = ((p.nx + j : Nat) : Int) := by rw [IntKind.wrap_i64]; omega
            have hrem : ((p.nx + j : Nat) : Int).tmod (n : Int) = (i : Int) := by rw [← hi]; rfl
            have hq : (IntKind.i64.wrap ((p.nx : Int) - 1 + ((j : Int) + 1))).tmod (n : Int) = (i : Int) := by
              rw [show (p.nx : Int) - 1 + ((j : Int) + 1) = (p.nx : Int) + (j : Int) by omega, hsum]; exact hrem
            have HI := Lib.hid hi
            have hnz : ¬ n = 0 := by omega
            obtain ⟨g, c, k1, hg, hrow, hRg⟩ := H.out.opened (by rw [HN.out]; exact hn0)
            have hil : i < p.l.length := by rw [HN.out]; exact hin
            have c0 : y.cell? ⟨R, 0, none⟩ = some (.slice (some ⟨g, 0, none⟩) n c) := by rw [← HN.out]; simp [World.cell?, k1]
            have c1 : y.cell? ⟨R, 1, none⟩ = some (.int .i64 ((p.nx : Int) - 1)) := by simp [World.cell?, k1]
            have e0 := (hrow.cell hil).1
            have e1 := (hrow.cell hil).2.1
            have hcap : n ≤ c := by have := hrow.cap; rw [HN.out] at this; exact this
            obtain ⟨di, hdi⟩ : ∃ di, (pe p.l i).d = di := ⟨_, rfl⟩
            rw [hdi] at e1
            have HDI := Lib.hid hdi
            clear hi hdi
            go_upto_region 14 with fail
            have HD := Lib.hid (drew_below y)
            replace H := Lib.hid (H.out.step HD.out)
            replace HF := Lib.hid (HF.out.step HD.out)
            refine region_plan [(true, 0), (true, 1), (true, 2), (true, 3), (true, 4), (true, 5), (true, 6), (true, 7), (true, 8), (true, 9), (true, 10), (true, 11), (true, 12)]
              (fun z => z.cell? ⟨R, 0, none⟩ = some (.slice (some ⟨g, 0, none⟩) n c) ∧ z.cell? ⟨R, 1, none⟩ = some (.int .i64 ((p.nx : Int) - 1))) (by kernel_rfl) (by kernel_rfl) (by kernel_rfl) rfl ⟨c0, c1⟩ ?_
            clear c0 c1 e0 e1 k1 hg hrow hRg HD
            generalize y.drew = z at *
            iterate 13 (refine Plan.take (v := ?_) rfl (by rfl) ?_ ?_; rotate_left 1; (focus (intro x hx; go_simp <;> (first | with_reducible rfl | rw [if_pos (by omega)]))); simp only [Act.put, List.setIfInBounds_toArray, List.set_cons_zero, List.set_cons_succ])
            refine Plan.done ?_
            clear hrem hsum hq
            obtain ⟨g, c, k1, hg, hrow, hRg⟩ := H.out.opened (by rw [HN.out]; exact hn0)
            have c0 : z.cell? ⟨R, 0, none⟩ = some (.slice (some ⟨g, 0, none⟩) n c) := by rw [← HN.out]; simp [World.cell?, k1]
            have c1 : z.cell? ⟨R, 1, none⟩ = some (.int .i64 ((p.nx : Int) - 1)) := by simp [World.cell?, k1]
            have f1 : z.frozen? ⟨R, 1, none⟩ = false := by simp [World.frozen?, k1]
            have e0 := (hrow.cell hil).1
            have e1 := (hrow.cell hil).2.1
            rw [HDI.out] at e1
            have hcap : n ≤ c := by have := hrow.cap; rw [HN.out] at this; exact this
            have ne1 : ¬ R = g := hRg
            have ne2 : ¬ g = R := fun h => hRg h.symm
            have hi := HI.out
            have hx : (pe p.l ((p.nx + j) % p.l.length)).d = di := by rw [HN.out, hi]; exact HDI.out
            cases di with
            | false =>
              have hsk : seekN p.l p.nx n = some i := by
                have := seekN_of hx (fun j' hj' => seekN_none HS.out j' hj') (k := n) hjn
                rw [this, HN.out, hi]
              have HX : Hid (nextP p now = ({ p with nx := i + 1 }, (pe p.l i).a, true)) := by show _ = _; unfold nextP; rw [HN.out, HBN.out, hsk]
              have HE : Hid (R9p (z.setCell ⟨R, 1, none⟩ (.int .i64 (i : Int))) B R { p with nx := i + 1 } ∧ Ft B [40, 42] z (z.setCell ⟨R, 1, none⟩ (.int .i64 (i : Int)))) := by
                obtain ⟨q1, q2⟩ := put_row (i := 1) (v := .int .i64 (i : Int)) k1
                have hft : Ft B [40] z (z.setCell ⟨R, 1, none⟩ (.int .i64 (i : Int))) := Ft.of_ch q2 (fun y hy _ => by simp at hy; subst hy; exact ⟨H.out.le, _, _, _, k1, by simp⟩)
                refine ⟨⟨H.out.le, some ⟨g, 0, none⟩, g, c, ?_, fun _ => ⟨rfl, hg, hrow.ft hft (by decide)⟩⟩, hft.mono (Nat.le_refl _) (by simp)⟩
                rw [q1]
                simp
              clear hx hsk hi k1 hg hrow hRg H hil
              go_wp2
              exact HP.out _ _ _ _ _ HX.out rfl HE.out.1 (HF.out.trans HE.out.2)
            | true =>
              have HS2 : Hid (seekN p.l p.nx (j + 1) = none) := by
                show _ = _
                unfold seekN
                rw [HS.out]
                simp only []
                rw [hx]
                rfl
              clear hx hi k1 hg hrow hRg hil
              go_wp2
              go_roundw
              case rel => exact ⟨j + 1, by omega, by go_num, HS2, H, HF⟩
              case measure => simp [intOf]; omega
          · have hjn2 : n = j := by omega
            subst hjn2
            have hle : ¬ (n : Int) + 1 ≤ (n : Int) := by omega
            have HX : Hid (nextP p now = (p, 0, false)) := by show _ = _; unfold nextP; rw [HN.out, HBN.out, HS.out]
            obtain ⟨A, g, c, hc⟩ := H.out.rc
            have c0 := hc.c0
            rw [HN.out] at c0
            clear hc
            go_wp2
            exact HP.out _ _ _ _ _ HX.out rfl H.out HF.out
end Go.Proofs.Ytkghbdikbbeoaaa
