/-
  A slave that a module holds by value, at the head of its block; the other cells u stay: its memory. (embgen.py writes this text.) .. what its Pending, Reset, Offer and its smaller calls answer. (embgen.py writes this text.) .. what its fresh and reply answer. (embgen.py writes this text.) .. what its Take answers. (embgen.py writes this text.) Buttons that a module holds by value, at 5 of its block; the other cells u stay. (embgen.py writes this text.)
-/
import Derived.Test.YtdcnmbglbopgdaaSlaMem
import Derived.StillTailTactics
import Derived.Deep.DeepCutAuto
import Derived.Test.YtdcnmbglbopgdaaButKb
import Derived.Deep.MidRow
namespace Go.Proofs.Ytdcnmbglbopgdaa
set_option linter.unusedVariables false
set_option linter.unusedSimpArgs false
open Go.RowKit
namespace Emb
/-- The other cells of a module's block, and where what is pending may lie. -/
structure Uv where
  v : Nat → Value
  p : Nat → Prop
variable {u : Uv}
/-- D alone has turned, and what is new is there. -/
structure Fd (B D : Nat) (w w' : World) : Prop where
  ft : Ft B [90] w w'
  ch : Ch [D] w w'
theorem Fd.size {B D : Nat} {w w' : World} (h : Fd B D w w') : w.heap.size ≤ w'.heap.size := h.ft.size
theorem Fd.refl (B D : Nat) (w : World) : Fd B D w w := ⟨Ft.refl _ _ _, Ch.refl _ _⟩
theorem Fd.trans {B D : Nat} {a b c : World} (h : Fd B D a b) (k : Fd B D b c) : Fd B D a c := ⟨h.ft.trans k.ft, h.ch.trans k.ch⟩
theorem Fd.of_below {B D : Nat} {w w' : World} (h : Below w.heap.size w w') : Fd B D w w' := ⟨Ft.of_below h, (Ch.of_below h).mono (by simp)⟩
theorem Fd.step {B D : Nat} {a b c : World} (h : Fd B D a b) (k : Below b.heap.size b c) : Fd B D a c := h.trans (Fd.of_below k)
theorem Fd.keep {B D k : Nat} {w w' : World} {cs : Array Value} {e : TypeId} {fz : Nat × Nat} (h : Fd B D w w') (hk : w.heap[k]? = some (.cells cs e fz)) (he : e ∉ [90]) : w'.heap[k]? = some (.cells cs e fz) := h.ft.keep hk he
/-- Bytes that lie elsewhere than in D. -/
def Hb (w : World) (D : Nat) (A : Option Addr) (l : List UInt8) : Prop := ∃ g, Holds w g A (bcs l) ∧ (l.length = 0 ∨ g ≠ D)
theorem Hb.fd {w w' : World} {B D : Nat} {A : Option Addr} {l : List UInt8} (h : Hb w D A l) (hc : Fd B D w w') : Hb w' D A l := by
  obtain ⟨g, h1, h2⟩ := h
  refine ⟨g, h1.keep hc.ch (fun hp => ?_), h2⟩
  rw [bcs_length] at hp
  rcases h2 with h2 | h2
  · omega
  · simpa using h2
theorem Hb.step {w w' : World} {D : Nat} {A : Option Addr} {l : List UInt8} (h : Hb w D A l) (hb : Below w.heap.size w w') : Hb w' D A l := h.fd (Fd.of_below (B := 0) hb)
abbrev scs (u : Uv) (s : Sl) (V : Value) : Array Value := #[.int .u8 (s.ses : Int), .int .u8 (s.tell : Int), .int .u8 (s.nx : Int), .int .u8 (s.addr : Int), V, u.v 5, u.v 6, u.v 7, u.v 8, u.v 9, u.v 10, u.v 11, u.v 12, u.v 13, u.v 14, u.v 15, u.v 16, u.v 17, u.v 18, u.v 19, u.v 20, u.v 21]
/-- A slave at D, from B on. -/
structure Sv (u : Uv) (w : World) (B D : Nat) (s : Sl) : Prop where
  le : B ≤ D
  at_ : ∃ A c, w.heap[D]? = some (.cells (scs u s (.slice A s.pend.length c)) 90 (0, 0)) ∧ w.ownsRow B 5 1 (.slice A s.pend.length c) s.pend.length (bcs s.pend) ∧ ∀ b ∈ ablk A, u.p b
theorem Sv.ft {w w' : World} {B B' D : Nat} {T : List TypeId} {s : Sl} (h : Sv u w B D s) (hc : Ft B' T w w') (h1 : 90 ∉ T) (h2 : 5 ∉ T) : Sv u w' B D s := by
  obtain ⟨A, c, k1, k2, k3⟩ := h.at_
  exact ⟨h.le, A, c, hc.keep k1 h1, own_ft k2 hc h2, k3⟩
theorem Sv.step {w w' : World} {B D : Nat} {s : Sl} (h : Sv u w B D s) (hb : Below w.heap.size w w') : Sv u w' B D s := h.ft (B' := 0) (T := []) (Ft.of_below hb) (by simp) (by simp)
theorem Sv.lt {w : World} {B D : Nat} {s : Sl} (h : Sv u w B D s) : D < w.heap.size := by
  obtain ⟨A, c, k1, _⟩ := h.at_
  exact (Array.getElem?_eq_some_iff.1 k1).1
/-- What is read and written of it. -/
structure Sc (w : World) (D : Nat) (s : Sl) (V : Value) : Prop where
  c0 : w.cell? ⟨D, 0, none⟩ = some (.int .u8 (s.ses : Int))
  c1 : w.cell? ⟨D, 1, none⟩ = some (.int .u8 (s.tell : Int))
  c2 : w.cell? ⟨D, 2, none⟩ = some (.int .u8 (s.nx : Int))
  c3 : w.cell? ⟨D, 3, none⟩ = some (.int .u8 (s.addr : Int))
  c4 : w.cell? ⟨D, 4, none⟩ = some V
  fz : ∀ i, w.frozen? ⟨D, i, none⟩ = false
theorem sc_of {w : World} {D : Nat} {s : Sl} {V : Value} (h : w.heap[D]? = some (.cells (scs u s V) 90 (0, 0))) : Sc w D s V := by
  constructor
  all_goals first | (simp [World.cell?, h]; done) | (intro i; simp [World.frozen?, h])
theorem Sv.sc {w : World} {B D : Nat} {s : Sl} (h : Sv u w B D s) : ∃ A c, Sc w D s (.slice A s.pend.length c) := by
  obtain ⟨A, c, k1, _⟩ := h.at_
  exact ⟨A, c, sc_of k1⟩
/-- Some of its cells are set, but not what is pending. -/
theorem Sv.turn {w : World} {B D : Nat} {s : Sl} (h : Sv u w B D s) (l : List (Nat × Value)) (s' : Sl) (hp : s'.pend = s.pend) (hc : ∀ V, setsA l (scs u s V) = scs u s' V) : Sv u (sets D l w) B D s' ∧ Fd B D w (sets D l w) := by
  obtain ⟨A, c, k1, k2, k3⟩ := h.at_
  obtain ⟨h1, h2⟩ := sets_row l k1
  have hft : Ft B [90] w (sets D l w) := Ft.of_ch h2 (fun y hy _ => by simp at hy; subst hy; exact ⟨h.le, _, _, _, k1, by simp⟩)
  rw [hc] at h1
  refine ⟨⟨h.le, A, c, ?_, ?_, k3⟩, hft, h2⟩
  · rw [hp]; exact h1
  · rw [hp]; exact own_ft k2 hft (by decide)
/-- .. and what is pending too. -/
theorem Sv.turnp {w x : World} {B D : Nat} {s : Sl} {T : List TypeId} (h : Sv u w B D s) (hx : Ft B T w x) (hT : 90 ∉ T) (l : List (Nat × Value)) (s' : Sl) {A' : Option Addr} {c' : Nat}
    (ho : x.ownsRow B 5 1 (.slice A' s'.pend.length c') s'.pend.length (bcs s'.pend)) (hc : ∀ V, setsA l (scs u s V) = scs u s' (.slice A' s'.pend.length c')) (hp : ∀ b ∈ ablk A', u.p b := by simp [ablk]) : Sv u (sets D l x) B D s' ∧ Fd B D x (sets D l x) := by
  obtain ⟨A, c, k0, _⟩ := h.at_
  have k1 := hx.keep k0 hT
  obtain ⟨h1, h2⟩ := sets_row l k1
  have hft : Ft B [90] x (sets D l x) := Ft.of_ch h2 (fun y hy _ => by simp at hy; subst hy; exact ⟨h.le, _, _, _, k1, by simp⟩)
  rw [hc] at h1
  exact ⟨⟨h.le, A', c', h1, own_ft ho hft (by decide), hp⟩, hft, h2⟩
end Emb
end Go.Proofs.Ytdcnmbglbopgdaa
namespace Go.Proofs.Ytdcnmbglbopgdaa
open Go.RowKit
namespace Emb
variable {u : Uv}
theorem spend_on {w : World} {B D : Nat} {s : Sl} (h : Sv u w B D s) : Calls Try.prog 63 #[.pointer (some ⟨D, 0, none⟩)] w fun e w' => e = .returned (.bool (decide (s.pend.length ≠ 0))) ∧ w' = w := by
  obtain ⟨A, c, hc⟩ := h.sc
  have h5 := hc.c4
  clear hc h
  generalize s.pend.length = n at *
  have HD : Hid (decide (n ≠ 0) = decide ((0 : Int) < (n : Int))) := by
    show _ = _
    rw [decide_eq_decide]
    omega
  rw [HD.out]
  go_enter Try.func63, Try.ntmps63
  go_wp2
  go_ret
  first
    | exact ⟨rfl, rfl⟩
    | (refine ⟨?_, rfl⟩; simp)
theorem sreset_on {w : World} {B D : Nat} {s : Sl} (h : Sv u w B D s) : Calls Try.prog 42 #[.pointer (some ⟨D, 0, none⟩)] w fun e w' => e = .returned (.tuple #[]) ∧ Sv u w' B D (newS s.addr) ∧ Fd B D w w' := by
  obtain ⟨A, c, hc⟩ := h.sc
  have c0 := hc.c0
  have c1 := hc.c1
  have c2 := hc.c2
  have c3 := hc.c3
  have c4 := hc.c4
  have f0 := hc.fz 0
  have f1 := hc.fz 1
  have f2 := hc.fz 2
  have f3 := hc.fz 3
  have f4 := hc.fz 4
  have H := Lib.hid (h.turnp (T := []) (Ft.refl B [] w) (by simp) [(0, .int .u8 0), (1, .int .u8 0), (2, .int .u8 0), (3, .int .u8 (s.addr : Int)), (4, .slice none 0 0)] (newS s.addr) (A' := none) (c' := 0) (World.ownsRow_nil _ _ _ _) (fun V => rfl))
  clear hc h
  generalize newS s.addr = s' at *
  go_enter Try.func42, Try.ntmps42
  go_wp2
  go_end0
  exact ⟨rfl, H.out⟩
theorem sbegin_on {w : World} {B D n : Nat} {s : Sl} (h : Sv u w B D s) : Calls Try.prog 46 #[.pointer (some ⟨D, 0, none⟩), .int .u8 (n : Int)] w fun e w' => e = .returned (.tuple #[]) ∧ Sv u w' B D { s with ses := n, tell := 0, nx := 0 } ∧ Fd B D w w' := by
  obtain ⟨A, c, hc⟩ := h.sc
  have c0 := hc.c0
  have c1 := hc.c1
  have c2 := hc.c2
  have f0 := hc.fz 0
  have f1 := hc.fz 1
  have f2 := hc.fz 2
  have H := Lib.hid (h.turn [(0, .int .u8 (n : Int)), (1, .int .u8 0), (2, .int .u8 0)] { s with ses := n, tell := 0, nx := 0 } rfl (fun V => rfl))
  clear hc h
  generalize ({ s with ses := n, tell := 0, nx := 0 } : Sl) = s' at *
  go_enter Try.func46, Try.ntmps46
  go_wp2
  go_end0
  exact ⟨rfl, H.out⟩
theorem sturntells_on {w : World} {B D : Nat} {s : Sl} (h : Sv u w B D s) (h1 : s.tell ≤ 1) : Calls Try.prog 64 #[.pointer (some ⟨D, 0, none⟩)] w fun e w' => e = .returned (.tuple #[]) ∧ Sv u w' B D { s with tell := 1 - s.tell } ∧ Fd B D w w' := by
  obtain ⟨A, c, hc⟩ := h.sc
  have c1 := hc.c1
  have f1 := hc.fz 1
  have hx := xor_one h1
  have H := Lib.hid (h.turn [(1, .int .u8 ((1 - s.tell : Nat) : Int))] { s with tell := 1 - s.tell } rfl (fun V => rfl))
  clear hc h h1
  cases s with
  | mk addr ses tell nx pend =>
  simp only at *
  generalize 1 - tell = s' at *
  go_enter Try.func64, Try.ntmps64
  go_wp2
  go_end0
  exact ⟨rfl, H.out⟩
theorem sturnawaits_on {w : World} {B D : Nat} {s : Sl} (h : Sv u w B D s) (h1 : s.nx ≤ 1) : Calls Try.prog 65 #[.pointer (some ⟨D, 0, none⟩)] w fun e w' => e = .returned (.tuple #[]) ∧ Sv u w' B D { s with nx := 1 - s.nx } ∧ Fd B D w w' := by
  obtain ⟨A, c, hc⟩ := h.sc
  have c2 := hc.c2
  have f2 := hc.fz 2
  have hx := xor_one h1
  have H := Lib.hid (h.turn [(2, .int .u8 ((1 - s.nx : Nat) : Int))] { s with nx := 1 - s.nx } rfl (fun V => rfl))
  clear hc h h1
  cases s with
  | mk addr ses tell nx pend =>
  simp only at *
  generalize 1 - nx = s' at *
  go_enter Try.func65, Try.ntmps65
  go_wp2
  go_end0
  exact ⟨rfl, H.out⟩
theorem slasts_on {w : World} {B D n : Nat} {s : Sl} (h : Sv u w B D s) : Calls Try.prog 48 #[.pointer (some ⟨D, 0, none⟩), .int .u8 (n : Int)] w fun e w' => e = .returned (.bool (decide (s.ses ≠ 0 ∧ n = s.ses))) ∧ w' = w := by
  obtain ⟨A, c, hc⟩ := h.sc
  have c0 := hc.c0
  clear hc h
  generalize s.ses = m at *
  by_cases hm : m = 0
  · have HD : Hid (decide (m ≠ 0 ∧ n = m) = false) := by show _ = _; simp [hm]
    rw [HD.out]
    have hm' : (m : Int) = 0 := by omega
    rw [hm'] at c0
    go_enter Try.func48, Try.ntmps48
    go_wp2
    go_ret
    exact ⟨rfl, rfl⟩
  · have HD : Hid (decide (m ≠ 0 ∧ n = m) = ((n : Int) == (m : Int))) := by
      show _ = _
      rw [Bool.eq_iff_iff, beq_iff_eq, decide_eq_true_iff]
      omega
    rw [HD.out]
    have hm' : ((m : Int) != 0) = true := by simp; omega
    go_enter Try.func48, Try.ntmps48
    go_wp2
    go_ret
    exact ⟨rfl, rfl⟩

set_option maxRecDepth 20000 in
set_option maxHeartbeats 1600000 in
theorem ssettle_on {w : World} {B D : Nat} {s : Sl} (h : Sv u w B D s) (h1 : s.tell ≤ 1) (ack : Nat) : Calls Try.prog 49 #[.pointer (some ⟨D, 0, none⟩), .int .u8 (ack : Int)] w fun e w' => e = .returned (.tuple #[]) ∧ Sv u w' B D (gotS s ack) ∧ Fd B D w w' := by
  have HM : Hid (gotS s ack = if s.pend.length ≠ 0 ∧ ack ≠ s.tell then { s with pend := [], tell := 1 - s.tell } else s) := rfl
  obtain ⟨A, c, hc⟩ := h.sc
  have c1 := hc.c1
  have c4 := hc.c4
  have f4 := hc.fz 4
  have H := Lib.hid h
  have HT := Lib.hid h1
  clear hc h h1
  generalize hr : gotS s ack = r at *
  clear hr
  by_cases hq : s.pend.length ≠ 0
  · have hd : decide (s.pend.length ≠ 0) = true := by simpa using hq
    by_cases ha : ack = s.tell
    · have HR : Hid (r = s) := by show _ = _; rw [HM.out, if_neg (by omega)]
      clear HM
      subst ha
      go_enter Try.func49, Try.ntmps49
      go_wp2_with fail
      refine (spend_on H.out).mono ?_
      rintro e x ⟨rfl, rfl⟩
      rw [hd]
      go_wp2
      go_end0
      rw [HR.out]
      exact ⟨rfl, H.out, Fd.refl _ _ _⟩
    · have HRR : Hid (r = { s with pend := [], tell := 1 - s.tell }) := by show _ = _; rw [HM.out, if_pos ⟨hq, ha⟩]
      clear HM
      have ha' : ((ack : Int) != (s.tell : Int)) = true := by simp; omega
      go_enter Try.func49, Try.ntmps49
      go_wp2_with fail
      refine (spend_on H.out).mono ?_
      rintro e x ⟨rfl, rfl⟩
      rw [hd]
      have K := Lib.hid (H.out.turnp (T := []) (Ft.refl B [] x) (by simp) [(4, .slice none 0 0)] { s with pend := [] } (A' := none) (c' := 0) (World.ownsRow_nil _ _ _ _) (fun V => rfl))
      clear hd hq
      go_wp2_with fail
      refine (sturntells_on K.out.1 HT.out).mono ?_
      rintro e y ⟨rfl, g1, g2⟩
      have K1 := Lib.hid g1
      have K2 := Lib.hid g2
      clear g1 g2
      go_wp2
      go_end0
      rw [HRR.out]
      exact ⟨rfl, K1.out, K.out.2.trans K2.out⟩
  · have HRR : Hid (r = s) := by show _ = _; rw [HM.out, if_neg (by omega)]
    have hd : decide (s.pend.length ≠ 0) = false := by simpa using hq
    clear HM
    go_enter Try.func49, Try.ntmps49
    go_wp2_with fail
    refine (spend_on H.out).mono ?_
    rintro e x ⟨rfl, rfl⟩
    rw [hd]
    go_wp2
    go_end0
    rw [HRR.out]
    exact ⟨rfl, H.out, Fd.refl _ _ _⟩

set_option maxRecDepth 20000 in
set_option maxHeartbeats 1600000 in
theorem soffer_on {w : World} {B D n c : Nat} {s : Sl} {l : List UInt8} {A : Option Addr} (h : Sv u w B D s) (hBw : B ≤ w.heap.size) (hpn : ∀ b, w.heap.size ≤ b → u.p b) (hb : Hb w D A l) (hn : l.length = n) : Calls Try.prog 67 #[.pointer (some ⟨D, 0, none⟩), .slice A n c] w fun e w' => e = .returned (.int .i64 (offerS s l).2) ∧ Sv u w' B D (offerS s l).1 ∧ Fd B D w w' := by
  have HM : Hid (offerS s l = if l.length = 0 ∨ 24 < l.length then (s, 1) else if s.pend.length ≠ 0 then (s, 5) else ({ s with pend := l }, 0)) := rfl
  have H := Lib.hid h
  have HHB := Lib.hid hb
  have HBW := Lib.hid hBw
  have HPN := Lib.hid hpn
  clear h hb hBw hpn
  generalize hr : offerS s l = r at *
  clear hr
  rw [hn] at HM
  have HL := Lib.hid hn
  clear hn
  by_cases hb : n = 0 ∨ 24 < n
  · have HRR : Hid (r = (s, 1)) := by show _ = _; rw [HM.out, if_pos hb]
    clear HM
    by_cases hn0 : n = 0
    · subst hn0
      go_enter Try.func67, Try.ntmps67
      go_wp2
      go_ret
      rw [HRR.out]
      exact ⟨rfl, H.out, Fd.refl _ _ _⟩
    · have i1 : ((n : Int) == 0) = false := by simp; omega
      have i2 : (24 : Int) < (n : Int) := by omega
      go_enter Try.func67, Try.ntmps67
      go_wp2
      go_ret
      rw [HRR.out]
      exact ⟨rfl, H.out, Fd.refl _ _ _⟩
  · have i1 : ((n : Int) == 0) = false := by simp; omega
    have i2 : ¬ (24 : Int) < (n : Int) := by omega
    rw [if_neg hb] at HM
    by_cases hq : s.pend.length ≠ 0
    · have HRR : Hid (r = (s, 5)) := by show _ = _; rw [HM.out, if_pos hq]
      have hd : decide (s.pend.length ≠ 0) = true := by simpa using hq
      clear HM
      go_enter Try.func67, Try.ntmps67
      go_wp2_with fail
      refine (spend_on H.out).mono ?_
      rintro e x ⟨rfl, rfl⟩
      rw [hd]
      go_wp2
      go_ret
      rw [HRR.out]
      exact ⟨rfl, H.out, Fd.refl _ _ _⟩
    · have HRR : Hid (r = ({ s with pend := l }, 0)) := by show _ = _; rw [HM.out, if_neg hq]
      have hd : decide (s.pend.length ≠ 0) = false := by simpa using hq
      clear HM
      go_enter Try.func67, Try.ntmps67
      go_wp2_with fail
      refine (spend_on H.out).mono ?_
      rintro e x ⟨rfl, rfl⟩
      rw [hd]
      go_wp2_with fail
      obtain ⟨g, hh, _⟩ := HHB.out
      refine (clone_on hh HL.out (by omega)).mono ?_
      rintro e x1 ⟨A1, c1, rfl, ho1, hb1⟩
      rw [HL.out] at ho1 ⊢
      have H1 := Lib.hid (H.out.step hb1)
      have HO := Lib.hid (own_mono ho1 HBW.out)
      have HPA : Hid (∀ b ∈ ablk A1, u.p b) := by
        intro b hb
        cases A1 with
        | none => simp [ablk] at hb
        | some a => simp [ablk] at hb; subst hb; exact HPN.out _ (ho1.lt _ rfl).1
      have HF := Lib.hid (Fd.of_below (B := B) (D := D) hb1)
      clear hh ho1 hb1 hd hq i1 i2 hb
      obtain ⟨A2, c2, hc⟩ := H1.out.sc
      have c4 := hc.c4
      have f4 := hc.fz 4
      have KK := Lib.hid (H1.out.turnp (T := []) (Ft.refl B [] x1) (by simp) [(4, .slice A1 n c1)] { s with pend := l } (A' := A1) (c' := c1) (by show World.ownsRow _ _ _ _ (.slice A1 l.length c1) l.length (bcs l); rw [HL.out]; exact HO.out) (fun V => by rw [← HL.out]; rfl) HPA.out)
      clear hc
      go_wp2
      go_ret
      rw [HRR.out]
      exact ⟨rfl, KK.out.1, HF.out.trans KK.out.2⟩

set_option maxRecDepth 20000 in
set_option maxHeartbeats 1600000 in
theorem sanswer_on {w : World} {B D k : Nat} {s : Sl} (h : Sv u w B D s) : Calls Try.prog 47 #[.pointer (some ⟨D, 0, none⟩), .int .u8 (k : Int)] w fun e w' => e = .returned (.agg (fcs ⟨s.addr, k, s.ses, 0, 0, []⟩ (.slice none 0 0))) ∧ Below w.heap.size w w' := by
  have HB := Lib.hid (new_below w (.cells noFr 36))
  have H1 := Lib.hid (h.step HB.out)
  have HX : Hid (Fx (w.alloc (.cells noFr 36)) w.heap.size ⟨0, 0, 0, 0, 0, []⟩ (.slice none 0 0)) := heap_alloc_new w _
  clear h
  go_enter Try.func47, Try.ntmps47
  go_upto_region 1 with fail
  generalize w.alloc (.cells noFr 36) = x at *
  have HB2 : Hid (Below w.heap.size w x.drew) := HB.out.trans ((drew_below x).mono HB.out.size)
  have H2 := Lib.hid (H1.out.step (drew_below x))
  have HX2 := Lib.hid (HX.out.step (drew_below x))
  clear HB H1 HX
  obtain ⟨A, c, hc⟩ := H2.out.sc
  have c0 := hc.c0
  have c3 := hc.c3
  have hf := HX2.out.fc
  have r0 := hf.c0
  have r1 := hf.c1
  have r2 := hf.c2
  have r3 := hf.c3
  have r4 := hf.c4
  have r5 := hf.c5
  have q0 := hf.fz 0
  have q1 := hf.fz 1
  have q2 := hf.fz 2
  have q3 := hf.fz 3
  have q4 := hf.fz 4
  have q5 := hf.fz 5
  clear hc hf
  go_still_tail 11, (by kernel_rfl)
  change wpList _ _ _ _ _ x.drew
  generalize x.drew = y at *
  go_wp2
  obtain ⟨h1, h2⟩ := sets_row [(0, .int .u8 (s.addr : Int)), (1, .int .u8 (k : Int)), (2, .int .u8 (s.ses : Int)), (3, .int .u8 0), (4, .int .u8 0), (5, .slice none 0 0)] HX2.out
  refine bodyPost_ret (results_row rfl _ _ w.heap.size 36 _ _ rfl h1 frame_struct frame_size) rfl ?_
  exact ⟨rfl, HB2.out.trans (h2.belowAt (by simp) HB2.out.size)⟩
end Emb
end Go.Proofs.Ytdcnmbglbopgdaa
namespace Go.Proofs.Ytdcnmbglbopgdaa
open Go.RowKit
namespace Emb
variable {u : Uv}
/-- What fresh answers. -/
def SFreshPost (u : Uv) (w : World) (B D : Nat) (s : Sl) (f : Fr) (e : Ending) (w' : World) : Prop :=
  ∃ A' c', e = .returned (.slice A' (cmdS s f).2.length c') ∧ w'.ownsRow w.heap.size 5 1 (.slice A' (cmdS s f).2.length c') (cmdS s f).2.length (bcs (cmdS s f).2) ∧ Sv u w' B D (cmdS s f).1 ∧ Fd B D w w'

set_option maxRecDepth 20000 in
set_option maxHeartbeats 1600000 in
theorem sfresh_on {w : World} {B D c : Nat} {s : Sl} {f : Fr} {A : Option Addr} (h : Sv u w B D s) (h1 : s.nx ≤ 1) (hb : Hb w D A f.b) (hle : f.b.length ≤ 1000000) : Calls Try.prog 50 #[.pointer (some ⟨D, 0, none⟩), .agg (fcs f (.slice A f.b.length c))] w (SFreshPost u w B D s f) := by
  have HB := Lib.hid (new_below w (.cells (fcs f (.slice A f.b.length c)) 36))
  have H1 := Lib.hid (h.step HB.out)
  have HX : Hid (Fx (w.alloc (.cells (fcs f (.slice A f.b.length c)) 36)) w.heap.size f (.slice A f.b.length c)) := heap_alloc_new w _
  have HH := Lib.hid (hb.step HB.out)
  have HP : Hid (∀ e w', SFreshPost u w B D s f e w' ↔ ∃ A' c', e = .returned (.slice A' (cmdS s f).2.length c') ∧ w'.ownsRow w.heap.size 5 1 (.slice A' (cmdS s f).2.length c') (cmdS s f).2.length (bcs (cmdS s f).2) ∧ Sv u w' B D (cmdS s f).1 ∧ Fd B D w w') := fun _ _ => Iff.rfl
  have HM : Hid (cmdS s f = if f.k = 2 ∧ f.q = s.nx then ({ s with nx := 1 - s.nx }, f.b) else (s, [])) := rfl
  have HS := Lib.hid h1
  clear h hb h1
  generalize SFreshPost u w B D s f = Q at *
  generalize cmdS s f = r at *
  obtain ⟨A1, cc, hc⟩ := H1.out.sc
  have hf := HX.out.fc
  have c1 := hc.c2
  have e1 := hf.c1
  have e3 := hf.c3
  have e5 := hf.c5
  clear hc hf
  generalize hl : f.b.length = l at *
  have HL := Lib.hid hl
  clear hl
  cases f with
  | mk fa fk fs fq fcc fb =>
  simp only at *
  go_enter Try.func50, Try.ntmps50
  go_upto_region 1 with fail
  generalize w.alloc (.cells (fcs ⟨fa, fk, fs, fq, fcc, fb⟩ (.slice A l c)) 36) = x at *
  have HXW : Hid (w.heap.size ≤ x.heap.size) := HB.out.size
  have HBD : Hid (Below w.heap.size w x.drew) := HB.out.trans ((drew_below x).mono HB.out.size)
  have HMD := Lib.hid (H1.out.step (drew_below x))
  have HXD := Lib.hid (HX.out.step (drew_below x))
  have HHD := Lib.hid (HH.out.step (drew_below x))
  have HSD : Hid (w.heap.size ≤ x.drew.heap.size) := HB.out.size
  clear HB H1 HX HH
  generalize w.heap.size = X at e1 e3 e5 HXD ⊢
  have e1' : x.drew.cell? ⟨X, 1, none⟩ = some (.int .u8 (fk : Int)) := e1
  have e3' : x.drew.cell? ⟨X, 3, none⟩ = some (.int .u8 (fq : Int)) := e3
  have e5' : x.drew.cell? ⟨X, 5, none⟩ = some (.slice A l c) := e5
  have c1' : x.drew.cell? ⟨D, 2, none⟩ = some (.int .u8 (s.nx : Int)) := c1
  clear e1 e3 e5 c1
  refine region_plan [(true, 0), (true, 1), (true, 2), (true, 3), (true, 4), (true, 5), (true, 6), (true, 7), (true, 8), (true, 9), (true, 10), (true, 11), (true, 12)]
    (fun y => y.cell? ⟨X, 1, none⟩ = some (.int .u8 (fk : Int)) ∧ y.cell? ⟨X, 3, none⟩ = some (.int .u8 (fq : Int)) ∧ y.cell? ⟨D, 2, none⟩ = some (.int .u8 (s.nx : Int))) (by kernel_rfl) (by kernel_rfl) (by kernel_rfl) rfl ⟨e1', e3', c1'⟩ ?_
  generalize x.drew = y at *
  by_cases h0 : fk = 2
  · have h0' : ((fk : Int) != 2) = false := by simp; omega
    by_cases hq : fq = s.nx
    · have HR : Hid (r = ({ s with nx := 1 - s.nx }, fb)) := by show _ = _; rw [HM.out, if_pos ⟨h0, hq⟩]
      clear HM
      subst hq
      iterate 13 (first | (refine Plan.take (v := ?_) rfl (by rfl) ?_ ?_; rotate_left 1; (focus (intro x hx; go_simp <;> (first | with_reducible rfl | rw [if_pos (by omega)]))); simp only [Act.put, List.setIfInBounds_toArray, List.set_cons_zero, List.set_cons_succ]) | (refine Plan.skip rfl (by rfl) ?_; simp only [Act.put, List.setIfInBounds_toArray, List.set_cons_zero, List.set_cons_succ]))
      refine Plan.done ?_
      go_wp2_with fail
      refine (sturnawaits_on HMD.out HS.out).mono ?_
      rintro e y1 ⟨rfl, g1, g2⟩
      have K1 := Lib.hid g1
      have K2 := Lib.hid g2
      have e5 := (g2.keep HXD.out (by decide))
      have e5'' : y1.cell? ⟨X, 5, none⟩ = some (.slice A l c) := (Fx.fc e5).c5
      obtain ⟨g, hh, _⟩ := HHD.out.fd g2
      have HH1 := Lib.hid hh
      clear g1 g2 e5 hh e1' e3' e5' c1'
      go_wp2_with fail
      refine (clone_on HH1.out HL.out (by omega)).mono ?_
      rintro e y2 ⟨A2, c2, rfl, ho, hb2⟩
      have K3 := Lib.hid ho
      have K4 := Lib.hid hb2
      clear ho hb2
      go_wp2
      refine (HP.out _ _).2 ?_
      rw [HR.out]
      exact ⟨A2, c2, rfl, own_mono K3.out (Nat.le_trans HSD.out K2.out.size), K1.out.step K4.out, ((Fd.of_below HBD.out).trans K2.out).step K4.out⟩
    · have HR : Hid (r = (s, [])) := by show _ = _; rw [HM.out, if_neg (by rintro ⟨_, h⟩; exact hq h)]
      clear HM
      have hq' : ((fq : Int) != (s.nx : Int)) = true := by simp; omega
      iterate 13 (first | (refine Plan.take (v := ?_) rfl (by rfl) ?_ ?_; rotate_left 1; (focus (intro x hx; go_simp <;> (first | with_reducible rfl | rw [if_pos (by omega)]))); simp only [Act.put, List.setIfInBounds_toArray, List.set_cons_zero, List.set_cons_succ]) | (refine Plan.skip rfl (by rfl) ?_; simp only [Act.put, List.setIfInBounds_toArray, List.set_cons_zero, List.set_cons_succ]))
      refine Plan.done ?_
      go_wp2
      refine (HP.out _ _).2 ?_
      rw [HR.out]
      exact ⟨none, 0, rfl, World.ownsRow_nil _ _ _ _, HMD.out, Fd.of_below HBD.out⟩
  · have HR : Hid (r = (s, [])) := by show _ = _; rw [HM.out, if_neg (by rintro ⟨h, _⟩; exact h0 h)]
    clear HM
    have h0' : ((fk : Int) != 2) = true := by simp; omega
    iterate 13 (first | (refine Plan.take (v := ?_) rfl (by rfl) ?_ ?_; rotate_left 1; (focus (intro x hx; go_simp <;> (first | with_reducible rfl | rw [if_pos (by omega)]))); simp only [Act.put, List.setIfInBounds_toArray, List.set_cons_zero, List.set_cons_succ]) | (refine Plan.skip rfl (by rfl) ?_; simp only [Act.put, List.setIfInBounds_toArray, List.set_cons_zero, List.set_cons_succ]))
    refine Plan.done ?_
    go_wp2
    refine (HP.out _ _).2 ?_
    rw [HR.out]
    exact ⟨none, 0, rfl, World.ownsRow_nil _ _ _ _, HMD.out, Fd.of_below HBD.out⟩

/-- While an answer is made: the slave as it is; the result, not yet set, at the first new block; the frame, at X. -/
structure Ny (u : Uv) (w : World) (B D : Nat) (s : Sl) (X : Nat) (f : Fr) (V : Value) (x : World) : Prop where
  sla : Sv u x B D s
  res : Fx x w.heap.size ⟨0, 0, 0, 0, 0, []⟩ (.slice none 0 0)
  box : Fx x X f V
  below : Below w.heap.size w x
  lt : w.heap.size < X
theorem Ny.step {w x y : World} {B D X : Nat} {s : Sl} {f : Fr} {V : Value} (h : Ny u w B D s X f V x) (hb : Below x.heap.size x y) : Ny u w B D s X f V y := ⟨h.sla.step hb, h.res.step hb, h.box.step hb, h.below.trans (hb.mono h.below.size), h.lt⟩
theorem Ny.set {w x : World} {B D X : Nat} {s : Sl} {f : Fr} {V : Value} (h : Ny u w B D s X f V x) (l : List (Nat × Value)) (f' : Fr) (V' : Value) (hc : setsA l (fcs f V) = fcs f' V') : Ny u w B D s X f' V' (sets X l x) ∧ Ch [X] x (sets X l x) := by
  have hlt := h.lt
  obtain ⟨h1, h2⟩ := sets_row l h.box
  rw [hc] at h1
  have hft : Ft 0 [36] x (sets X l x) := Ft.of_ch h2 (fun y hy _ => by simp at hy; subst hy; exact ⟨Nat.zero_le _, _, _, _, h.box, by simp⟩)
  exact ⟨⟨h.sla.ft hft (by decide) (by decide), (h2.block _ h.res.lt (by simp; omega)).trans h.res, h1, h.below.trans (h2.belowAt (by simp; omega) h.below.size), h.lt⟩, h2⟩
theorem Ny.ftx {w x : World} {B D X : Nat} {s : Sl} {f : Fr} {V : Value} (h : Ny u w B D s X f V x) (l : List (Nat × Value)) : Ft 0 [36] x (sets X l x) := by
  obtain ⟨_, h2⟩ := sets_row l h.box
  exact Ft.of_ch h2 (fun y hy _ => by simp at hy; subst hy; exact ⟨Nat.zero_le _, _, _, _, h.box, by simp⟩)
/-- The result, once set. -/
theorem Ny.told {w x : World} {B D X : Nat} {s : Sl} {f : Fr} {V : Value} (h : Ny u w B D s X f V x) (l : List (Nat × Value)) (f' : Fr) (V' : Value) (hc : setsA l (fcs ⟨0, 0, 0, 0, 0, []⟩ (.slice none 0 0)) = fcs f' V') :
    (sets w.heap.size l x).heap[w.heap.size]? = some (.cells (fcs f' V') 36 (0, 0)) ∧ Below w.heap.size w (sets w.heap.size l x) ∧ Ft 0 [36] x (sets w.heap.size l x) := by
  obtain ⟨h1, h2⟩ := sets_row l h.res
  rw [hc] at h1
  exact ⟨h1, h.below.trans (h2.belowAt (by simp) h.below.size), Ft.of_ch h2 (fun y hy _ => by simp at hy; subst hy; exact ⟨Nat.zero_le _, _, _, _, h.res, by simp⟩)⟩

/-- What reply answers. -/
def ReplyPost (w : World) (s : Sl) (e : Ending) (w' : World) : Prop :=
  ∃ A c, e = .returned (.agg (fcs (ansS s) (.slice A s.pend.length c))) ∧ w'.ownsRow w.heap.size 5 1 (.slice A s.pend.length c) s.pend.length (bcs s.pend) ∧ Below w.heap.size w w'

set_option maxRecDepth 20000 in
set_option maxHeartbeats 3200000 in
theorem sreply_on {w : World} {B D : Nat} {s : Sl} (h : Sv u w B D s) (h24 : s.pend.length ≤ 24) : Calls Try.prog 51 #[.pointer (some ⟨D, 0, none⟩)] w (ReplyPost w s) := by
  have HP : Hid (∀ e w', ReplyPost w s e w' ↔ ∃ A c, e = .returned (.agg (fcs (ansS s) (.slice A s.pend.length c))) ∧ w'.ownsRow w.heap.size 5 1 (.slice A s.pend.length c) s.pend.length (bcs s.pend) ∧ Below w.heap.size w w') := fun _ _ => Iff.rfl
  have HB := Lib.hid (new_below w (.cells noFr 36))
  have H1 := Lib.hid (h.step HB.out)
  have HX : Hid (Fx (w.alloc (.cells noFr 36)) w.heap.size ⟨0, 0, 0, 0, 0, []⟩ (.slice none 0 0)) := heap_alloc_new w _
  clear h
  generalize ReplyPost w s = Q at *
  go_enter Try.func51, Try.ntmps51
  go_wp2_with fail
  refine (sanswer_on H1.out).mono ?_
  rintro e x ⟨rfl, hb⟩
  have H2 := Lib.hid (H1.out.step hb)
  have HX2 := Lib.hid (HX.out.step hb)
  have HB2 : Hid (Below w.heap.size w x) := HB.out.trans (hb.mono HB.out.size)
  have HS2 : Hid (w.heap.size < x.heap.size) := Nat.lt_of_lt_of_le HX.out.lt hb.size
  clear hb HB H1 HX
  go_upto_region 2 with fail
  have hbA := new_below x (.cells (fcs ⟨s.addr, 5, s.ses, 0, 0, []⟩ (.slice none 0 0)) 36)
  have N1 : Hid (Ny u w B D s x.heap.size ⟨s.addr, 5, s.ses, 0, 0, []⟩ (.slice none 0 0) (x.alloc (.cells (fcs ⟨s.addr, 5, s.ses, 0, 0, []⟩ (.slice none 0 0)) 36)).drew) := by
    have := drew_below (x.alloc (.cells (fcs ⟨s.addr, 5, s.ses, 0, 0, []⟩ (.slice none 0 0)) 36))
    exact Ny.step ⟨H2.out.step hbA, HX2.out.step hbA, heap_alloc_new x _, HB2.out.trans (hbA.mono HB2.out.size), HS2.out⟩ this
  clear hbA H2 HX2 HB2
  obtain ⟨A0, c0, k1, k2, _⟩ := N1.out.sla.at_
  have hc := sc_of k1
  have HOW := Lib.hid (own_zero k2)
  have HSS : Hid (∀ y, Ft 0 [36] (x.alloc (.cells (fcs ⟨s.addr, 5, s.ses, 0, 0, []⟩ (.slice none 0 0)) 36)).drew y → y.cell? ⟨D, 1, none⟩ = some (.int .u8 (s.tell : Int)) ∧ y.cell? ⟨D, 2, none⟩ = some (.int .u8 (s.nx : Int)) ∧ y.cell? ⟨D, 4, none⟩ = some (.slice A0 s.pend.length c0)) := fun y hy => by
    have hc := sc_of (hy.keep k1 (by decide))
    exact ⟨hc.c1, hc.c2, hc.c4⟩
  refine region_plan [(true, 0), (true, 1), (true, 2), (true, 3), (true, 4), (true, 5), (true, 6), (true, 7), (true, 8), (true, 9), (true, 10), (true, 11), (true, 12), (true, 13), (true, 15), (false, 14), (false, 16), (true, 17), (false, 18), (true, 19), (false, 20)]
    (fun y => y.cell? ⟨D, 1, none⟩ = some (.int .u8 (s.tell : Int)) ∧ y.cell? ⟨D, 2, none⟩ = some (.int .u8 (s.nx : Int)) ∧ y.cell? ⟨D, 4, none⟩ = some (.slice A0 s.pend.length c0)) (by kernel_rfl) (by kernel_rfl) (by kernel_rfl) rfl (HSS.out _ (Ft.refl _ _ _)) ?_
  clear hc k1 k2
  generalize (x.alloc (.cells (fcs ⟨s.addr, 5, s.ses, 0, 0, []⟩ (.slice none 0 0)) 36)).drew = x1 at *
  generalize x.heap.size = X at *
  have HW1 : Hid (w.heap.size ≤ x1.heap.size) := N1.out.below.size
  iterate 15 (refine Plan.take (v := ?_) rfl (by rfl) ?_ ?_; rotate_left 1; (focus (intro x hx; go_simp <;> (first | with_reducible rfl | rw [if_pos (by omega)]))); simp only [Act.put, List.setIfInBounds_toArray, List.set_cons_zero, List.set_cons_succ])
  refine Plan.loud rfl (fun K hK => ?_)
  go_simp
  obtain ⟨g, hh, _⟩ := (Own1.mk HOW.out (B := 0) (fun _ _ => Nat.zero_le _) rfl).holds
  refine (clone_on hh rfl (by omega)).mono ?_
  rintro e x2 ⟨A1, c1, rfl, ho, hb2⟩
  have HF2 : Hid (Ft 0 [36] x1 x2) := Ft.of_below hb2
  have N2 := Lib.hid (N1.out.step hb2)
  have HO := Lib.hid (own_mono ho HW1.out)
  refine hK.out _ _ _ (fun x hx => hx) (HSS.out _ HF2.out) ?_
  clear hK K hh ho hb2 N1 HOW
  refine Plan.loud rfl (fun K hK => ?_)
  have g1 := N2.out.box.fc.c3
  have g2 := N2.out.box.fc.fz 3
  go_simp
  clear g1 g2
  have N3 := Lib.hid (N2.out.set [(3, .int .u8 (s.tell : Int))] ⟨s.addr, 5, s.ses, s.tell, 0, []⟩ (.slice none 0 0) rfl).1
  have HFa := N2.out.ftx [(3, .int .u8 (s.tell : Int))]
  have HF3 := Lib.hid (HF2.out.trans HFa)
  have HO3 := Lib.hid (own_ft HO.out HFa (by decide))
  refine hK.out _ _ _ (fun x hx => hx) (HSS.out _ HF3.out) ?_
  clear hK K HFa HF2 HO N2
  simp only [sets, List.foldl] at N3 HF3 HO3
  generalize x2.setCell ⟨X, 3, none⟩ (.int .u8 (s.tell : Int)) = x3 at *
  iterate 1 (refine Plan.take (v := ?_) rfl (by rfl) ?_ ?_; rotate_left 1; (focus (intro x hx; go_simp <;> (first | with_reducible rfl | rw [if_pos (by omega)]))); simp only [Act.put, List.setIfInBounds_toArray, List.set_cons_zero, List.set_cons_succ])
  refine Plan.loud rfl (fun K hK => ?_)
  have g1 := N3.out.box.fc.c4
  have g2 := N3.out.box.fc.fz 4
  go_simp
  clear g1 g2
  have N4 := Lib.hid (N3.out.set [(4, .int .u8 (s.nx : Int))] ⟨s.addr, 5, s.ses, s.tell, s.nx, []⟩ (.slice none 0 0) rfl).1
  have HFa := N3.out.ftx [(4, .int .u8 (s.nx : Int))]
  have HF4 := Lib.hid (HF3.out.trans HFa)
  have HO4 := Lib.hid (own_ft HO3.out HFa (by decide))
  refine hK.out _ _ _ (fun x hx => hx) (HSS.out _ HF4.out) ?_
  clear hK K HFa HF3 HO3 N3
  simp only [sets, List.foldl] at N4 HF4 HO4
  generalize x3.setCell ⟨X, 4, none⟩ (.int .u8 (s.nx : Int)) = x4 at *
  iterate 1 (refine Plan.take (v := ?_) rfl (by rfl) ?_ ?_; rotate_left 1; (focus (intro x hx; go_simp <;> (first | with_reducible rfl | rw [if_pos (by omega)]))); simp only [Act.put, List.setIfInBounds_toArray, List.set_cons_zero, List.set_cons_succ])
  refine Plan.loud rfl (fun K hK => ?_)
  have g1 := N4.out.box.fc.c5
  have g2 := N4.out.box.fc.fz 5
  go_simp
  clear g1 g2
  have N5 : Hid (Ny u w B D s X (ansS s) (.slice A1 s.pend.length c1) (sets X [(5, .slice A1 s.pend.length c1)] x4)) := (N4.out.set [(5, .slice A1 s.pend.length c1)] (ansS s) (.slice A1 s.pend.length c1) rfl).1
  have HFa := N4.out.ftx [(5, .slice A1 s.pend.length c1)]
  have HF5 := Lib.hid (HF4.out.trans HFa)
  have HO5 := Lib.hid (own_ft HO4.out HFa (by decide))
  refine hK.out _ _ _ (fun x hx => hx) (HSS.out _ HF5.out) ?_
  clear hK K HFa HF4 HO4 N4 HSS
  simp only [sets, List.foldl] at N5 HO5
  clear HF5
  generalize x4.setCell ⟨X, 5, none⟩ (.slice A1 s.pend.length c1) = x5 at *
  refine Plan.done ?_
  have hfA := N5.out.box.fc
  have e0 := hfA.c0
  have e1 := hfA.c1
  have e2 := hfA.c2
  have e3 := hfA.c3
  have e4 := hfA.c4
  have e5 := hfA.c5
  have hfR := N5.out.res.fc
  have r0 := hfR.c0
  have r1 := hfR.c1
  have r2 := hfR.c2
  have r3 := hfR.c3
  have r4 := hfR.c4
  have r5 := hfR.c5
  have q0 := hfR.fz 0
  have q1 := hfR.fz 1
  have q2 := hfR.fz 2
  have q3 := hfR.fz 3
  have q4 := hfR.fz 4
  have q5 := hfR.fz 5
  clear hfA hfR
  go_wp2
  have T := N5.out.told [(0, .int .u8 (s.addr : Int)), (1, .int .u8 5), (2, .int .u8 (s.ses : Int)), (3, .int .u8 (s.tell : Int)), (4, .int .u8 (s.nx : Int)), (5, .slice A1 s.pend.length c1)] (ansS s) (.slice A1 s.pend.length c1) rfl
  refine bodyPost_ret (results_row rfl _ _ w.heap.size 36 _ _ rfl T.1 frame_struct frame_size) rfl ?_
  exact (HP.out _ _).2 ⟨A1, c1, rfl, own_ft HO5.out T.2.2 (by decide), T.2.1⟩
end Emb
end Go.Proofs.Ytdcnmbglbopgdaa
namespace Go.Proofs.Ytdcnmbglbopgdaa
open Go.RowKit
namespace Emb
variable {u : Uv}
/-- A struct and two more, as a call hands them back: the struct lies in a row of its own. -/
theorem results_row_two {P : Program} {fn : Func} {p u v : Tmp} {ty : TypeId} (h : fn.results = #[.cell p ty, .tmp u, .tmp v]) (tmps : Array Value) (w : World) (g : Nat) (t : TypeId) (cs : Array Value) (fr : Nat × Nat)
    (hp : tmps.getD p undef = .pointer (some ⟨g, 0, none⟩)) (hg : w.heap[g]? = some (.cells cs t fr))
    (hu : ∃ fs, P.underlying ty = some (.struct fs)) (hi : (P.info? ty).map (·.size) = some cs.size) :
    (results fn tmps).run P w = .ok (.tuple #[.agg cs, tmps.getD u undef, tmps.getD v undef]) w := by
  obtain ⟨fs, hu⟩ := hu
  have e : (results fn tmps).run P w = ((asAddr (tmps.getD p undef)).run P w).andThen fun a w₁ => ((loadVar ty a).run P w₁).andThen fun x w₂ => .ok (.tuple #[x, tmps.getD u undef, tmps.getD v undef]) w₂ := by
    simp only [results, h]
    simp [Sem.run_bind, Result.andThen]
  rw [e, hp]
  simp [asAddr, Result.andThen, run_loadVar_row w g t ty cs fr _ hg hu rfl hi]

/-- What Take answers. -/
def STakePost (u : Uv) (w : World) (B D : Nat) (s : Sl) (f : Fr) (e : Ending) (w' : World) : Prop :=
  ∃ A1 c1 A2 c2, e = .returned (.tuple #[.agg (fcs (takeS s f).2.1 (.slice A1 (takeS s f).2.1.b.length c1)), .slice A2 (takeS s f).2.2.1.length c2, .bool (takeS s f).2.2.2]) ∧ w'.ownsRow w.heap.size 5 1 (.slice A1 (takeS s f).2.1.b.length c1) (takeS s f).2.1.b.length (bcs (takeS s f).2.1.b) ∧
    w'.ownsRow w.heap.size 5 1 (.slice A2 (takeS s f).2.2.1.length c2) (takeS s f).2.2.1.length (bcs (takeS s f).2.2.1) ∧ Sv u w' B D (takeS s f).1 ∧ Fd B D w w'

/-- While it takes: the slave, the frame at X, its bytes, the answer at R. -/
structure Tk (u : Uv) (w : World) (B D : Nat) (s : Sl) (X R : Nat) (f : Fr) (A : Option Addr) (c : Nat) (x : World) : Prop where
  sla : Sv u x B D s
  box : Fx x X f (.slice A f.b.length c)
  res : Fx x R ⟨0, 0, 0, 0, 0, []⟩ (.slice none 0 0)
  hb : Hb x D A f.b
  ft : Fd B D w x
  lt : w.heap.size ≤ R
theorem Tk.step {w x y : World} {B D X R c : Nat} {s : Sl} {f : Fr} {A : Option Addr} (h : Tk u w B D s X R f A c x) (hb : Below x.heap.size x y) : Tk u w B D s X R f A c y := ⟨h.sla.step hb, h.box.step hb, h.res.step hb, h.hb.step hb, h.ft.step hb, h.lt⟩
theorem Tk.turn {w x y : World} {B D X R c : Nat} {s s' : Sl} {f : Fr} {A : Option Addr} (h : Tk u w B D s X R f A c x) (hm : Sv u y B D s') (hf : Fd B D x y) : Tk u w B D s' X R f A c y := ⟨hm, h.box.ft hf.ft (by decide), h.res.ft hf.ft (by decide), h.hb.fd hf, h.ft.trans hf, h.lt⟩
/-- The answer, once set. -/
theorem Tk.told {w x : World} {B D X R c : Nat} {s : Sl} {f : Fr} {A : Option Addr} (h : Tk u w B D s X R f A c x) (l : List (Nat × Value)) (f' : Fr) (V' : Value) (hc : setsA l (fcs ⟨0, 0, 0, 0, 0, []⟩ (.slice none 0 0)) = fcs f' V') :
    (sets R l x).heap[R]? = some (.cells (fcs f' V') 36 (0, 0)) ∧ Fd B D w (sets R l x) ∧ Ft 0 [36] x (sets R l x) ∧ Sv u (sets R l x) B D s := by
  obtain ⟨h1, h2⟩ := sets_row l h.res
  rw [hc] at h1
  have hft : Ft 0 [36] x (sets R l x) := Ft.of_ch h2 (fun y hy _ => by simp at hy; subst hy; exact ⟨Nat.zero_le _, _, _, _, h.res, by simp⟩)
  have hlt := h.lt
  have hch : Ch [] w (sets R l x) → True := fun _ => trivial
  refine ⟨h1, ?_, hft, h.sla.ft hft (by decide) (by decide)⟩
  have hx := h.ft.ch
  refine ⟨⟨h2.os.trans hx.os, h2.tape.trans hx.tape, h2.output.trans hx.output, Nat.le_trans hx.size h2.size, fun k hk hb => ?_⟩, ⟨h2.os.trans hx.os, h2.tape.trans hx.tape, h2.output.trans hx.output, Nat.le_trans hx.size h2.size, fun k hk hb => ?_⟩⟩
  · rw [h2.block k (Nat.lt_of_lt_of_le hk hx.size) (by simp; omega)]
    exact h.ft.ft.block k hk hb
  · rw [h2.block k (Nat.lt_of_lt_of_le hk hx.size) (by simp; omega)]
    exact hx.block k hk hb

set_option maxRecDepth 20000 in
set_option maxHeartbeats 3200000 in
theorem stake_on {w : World} {B D c : Nat} {s : Sl} {f : Fr} {A : Option Addr} (h : Sv u w B D s) (hN : s.Ok) (hb : Hb w D A f.b) (hfl : f.b.length ≤ 1000000) : Calls Try.prog 35 #[.pointer (some ⟨D, 0, none⟩), .agg (fcs f (.slice A f.b.length c))] w (STakePost u w B D s f) := by
  have HP : Hid (∀ e w' r, takeS s f = r → ((∃ A1 c1 A2 c2, e = .returned (.tuple #[.agg (fcs r.2.1 (.slice A1 r.2.1.b.length c1)), .slice A2 r.2.2.1.length c2, .bool r.2.2.2]) ∧ w'.ownsRow w.heap.size 5 1 (.slice A1 r.2.1.b.length c1) r.2.1.b.length (bcs r.2.1.b) ∧
    w'.ownsRow w.heap.size 5 1 (.slice A2 r.2.2.1.length c2) r.2.2.1.length (bcs r.2.2.1) ∧ Sv u w' B D r.1 ∧ Fd B D w w') → STakePost u w B D s f e w')) := by
    rintro e w' r rfl hh
    exact hh
  have HM : Hid (takeS s f = if f.a ≠ s.addr ∨ f.k < 1 ∨ 3 < f.k then (s, noFrS, [], false)
    else if f.k = 1 then ({ s with ses := f.s, tell := 0, nx := 0 }, ⟨s.addr, 4, f.s, 0, 0, []⟩, [], true)
    else if f.s ≠ s.ses ∨ s.ses = 0 then (s, ⟨s.addr, 5, s.ses, 0, 0, []⟩, [], true)
    else ((cmdS (gotS s f.c) f).1, ansS (cmdS (gotS s f.c) f).1, (cmdS (gotS s f.c) f).2, true)) := rfl
  have HB := Lib.hid (new_below w (.cells (fcs f (.slice A f.b.length c)) 36))
  have HB1 := Lib.hid (new_below (w.alloc (.cells (fcs f (.slice A f.b.length c)) 36)) (.cells noFr 36))
  have H0 : Hid (Tk u w B D s w.heap.size (w.heap.size + 1) f A c ((w.alloc (.cells (fcs f (.slice A f.b.length c)) 36)).alloc (.cells noFr 36))) := by
    have k := heap_alloc_new (w.alloc (.cells (fcs f (.slice A f.b.length c)) 36)) (.cells noFr 36)
    rw [show (w.alloc (.cells (fcs f (.slice A f.b.length c)) 36)).heap.size = w.heap.size + 1 by simp] at k
    exact ⟨(h.step HB.out).step HB1.out, Fx.step (heap_alloc_new w _) HB1.out, k, (hb.step HB.out).step HB1.out, (Fd.of_below HB.out).step HB1.out, Nat.le_succ _⟩
  have HN := Lib.hid hN
  have HFL := Lib.hid hfl
  clear h hb hN HB HB1 hfl
  generalize STakePost u w B D s f = Q at *
  generalize takeS s f = r at *
  go_enter Try.func35, Try.ntmps35
  go_upto_region 1 with fail
  replace H0 := Lib.hid (H0.out.step (drew_below _))
  obtain ⟨A1, cc1, hc⟩ := H0.out.sla.sc
  have c3 := hc.c3
  have e0 := H0.out.box.fc.c0
  clear hc
  generalize hX : w.heap.size = X at *
  refine region_plan [(true, 0), (true, 1), (true, 2), (true, 3), (true, 4), (true, 5), (true, 6)]
    (fun y => y.cell? ⟨X, 0, none⟩ = some (.int .u8 (f.a : Int)) ∧ y.cell? ⟨D, 3, none⟩ = some (.int .u8 (s.addr : Int))) (by kernel_rfl) (by kernel_rfl) (by kernel_rfl) rfl ⟨e0, c3⟩ ?_
  clear c3 e0
  generalize World.drew _ = x1 at *
  have HXR : Hid (X = w.heap.size) := hX.symm
  clear hX
  have HW1 : Hid (X ≤ x1.heap.size) := by show _ ≤ _; rw [HXR.out]; exact H0.out.ft.size
  generalize hR : X + 1 = R at *
  clear hR
  iterate 7 (refine Plan.take (v := ?_) rfl (by rfl) ?_ ?_; rotate_left 1; (focus (intro x hx; go_simp <;> (first | with_reducible rfl | rw [if_pos (by omega)]))); simp only [Act.put, List.setIfInBounds_toArray, List.set_cons_zero, List.set_cons_succ])
  refine Plan.done ?_
  by_cases ha : f.a = s.addr
  rotate_left 1
  · rw [if_pos (.inl ha)] at HM
    have ha' : ((f.a : Int) != (s.addr : Int)) = true := by simp; omega
    have hfR := H0.out.res.fc
    have r0 := hfR.c0
    have r1 := hfR.c1
    have r2 := hfR.c2
    have r3 := hfR.c3
    have r4 := hfR.c4
    have r5 := hfR.c5
    have q0 := hfR.fz 0
    have q1 := hfR.fz 1
    have q2 := hfR.fz 2
    have q3 := hfR.fz 3
    have q4 := hfR.fz 4
    have q5 := hfR.fz 5
    clear hfR
    go_wp2
    have T := H0.out.told [(0, .int .u8 0), (1, .int .u8 0), (2, .int .u8 0), (3, .int .u8 0), (4, .int .u8 0), (5, .slice none 0 0)] noFrS (.slice none 0 0) rfl
    refine bodyPost_ret (results_row_two rfl _ _ R 36 _ _ rfl T.1 frame_struct frame_size) rfl ?_
    refine HP.out _ _ _ HM.out ⟨none, 0, none, 0, rfl, World.ownsRow_nil _ _ _ _, World.ownsRow_nil _ _ _ _, T.2.2.2, T.2.1⟩
  have ha' : ((f.a : Int) != (s.addr : Int)) = false := by simp; omega
  have e1 := H0.out.box.fc.c1
  by_cases hk1 : f.k = 1
  · rw [if_neg (by omega), if_pos hk1] at HM
    rw [hk1] at e1
    go_upto_region 5 with fail
    replace H0 := Lib.hid (H0.out.step (drew_below x1))
    have e2 := H0.out.box.fc.c2
    refine region_plan [(true, 0), (true, 1), (true, 2), (true, 3), (true, 4), (false, 5)]
      (fun y => y.cell? ⟨X, 2, none⟩ = some (.int .u8 (f.s : Int))) (by kernel_rfl) (by kernel_rfl) (by kernel_rfl) rfl e2 ?_
    clear e1 e2 ha'
    generalize x1.drew = x2 at *
    iterate 5 (refine Plan.take (v := ?_) rfl (by rfl) ?_ ?_; rotate_left 1; (focus (intro x hx; go_simp <;> (first | with_reducible rfl | rw [if_pos (by omega)]))); simp only [Act.put, List.setIfInBounds_toArray, List.set_cons_zero, List.set_cons_succ])
    refine Plan.loud rfl (fun K hK => ?_)
    go_simp
    refine (sbegin_on (n := f.s) H0.out.sla).mono ?_
    rintro e x3 ⟨rfl, g1, g2⟩
    have H3 := Lib.hid (H0.out.turn g1 g2)
    refine hK.out _ _ _ (fun x hx => hx) H3.out.box.fc.c2 ?_
    clear hK K g1 g2 H0
    refine Plan.done ?_
    go_wp2_with fail
    refine (sanswer_on H3.out.sla).mono ?_
    rintro e x4 ⟨rfl, hb4⟩
    have H4 := Lib.hid (H3.out.step hb4)
    clear hb4 H3
    simp only
    have hfR := H4.out.res.fc
    have r0 := hfR.c0
    have r1 := hfR.c1
    have r2 := hfR.c2
    have r3 := hfR.c3
    have r4 := hfR.c4
    have r5 := hfR.c5
    have q0 := hfR.fz 0
    have q1 := hfR.fz 1
    have q2 := hfR.fz 2
    have q3 := hfR.fz 3
    have q4 := hfR.fz 4
    have q5 := hfR.fz 5
    clear hfR
    go_wp2
    have T := H4.out.told [(0, .int .u8 (s.addr : Int)), (1, .int .u8 4), (2, .int .u8 (f.s : Int)), (3, .int .u8 0), (4, .int .u8 0), (5, .slice none 0 0)] ⟨s.addr, 4, f.s, 0, 0, []⟩ (.slice none 0 0) rfl
    refine bodyPost_ret (results_row_two rfl _ _ R 36 _ _ rfl T.1 frame_struct frame_size) rfl ?_
    refine HP.out _ _ _ HM.out ⟨none, 0, none, 0, rfl, World.ownsRow_nil _ _ _ _, World.ownsRow_nil _ _ _ _, T.2.2.2, T.2.1⟩
  by_cases hk : f.k = 2 ∨ f.k = 3
  rotate_left 1
  · rw [if_pos (by omega)] at HM
    have k1 : ((f.k : Int) == 1) = false := by simp; omega
    have k2 : ((f.k : Int) == 2) = false := by simp; omega
    have k3 : ((f.k : Int) == 3) = false := by simp; omega
    have hfR := H0.out.res.fc
    have r0 := hfR.c0
    have r1 := hfR.c1
    have r2 := hfR.c2
    have r3 := hfR.c3
    have r4 := hfR.c4
    have r5 := hfR.c5
    have q0 := hfR.fz 0
    have q1 := hfR.fz 1
    have q2 := hfR.fz 2
    have q3 := hfR.fz 3
    have q4 := hfR.fz 4
    have q5 := hfR.fz 5
    clear hfR
    go_wp2
    have T := H0.out.told [(0, .int .u8 0), (1, .int .u8 0), (2, .int .u8 0), (3, .int .u8 0), (4, .int .u8 0), (5, .slice none 0 0)] noFrS (.slice none 0 0) rfl
    refine bodyPost_ret (results_row_two rfl _ _ R 36 _ _ rfl T.1 frame_struct frame_size) rfl ?_
    refine HP.out _ _ _ HM.out ⟨none, 0, none, 0, rfl, World.ownsRow_nil _ _ _ _, World.ownsRow_nil _ _ _ _, T.2.2.2, T.2.1⟩
  rw [if_neg (by omega), if_neg hk1] at HM
  have k1 : ((f.k : Int) == 1) = false := by simp; omega
  clear ha hk1
  go_upto_region 7 with fail
  go_cut [28] (fun v y => v = .bool ((f.k : Int) == 2) ∧ y = x1)
  case first =>
    go_wp2
    go_meet
    case rel => exact ⟨rfl, rfl⟩
  case rest =>
    obtain ⟨rfl, rfl⟩ := hcut
    rename World => x1
    go_upto_if 28 with fail
    go_cut [28] (fun v y => v = .bool true ∧ y = x1)
    case first =>
      rcases hk with hk | hk
      · have k2 : (f.k : Int) = 2 := by omega
        clear hk
        go_wp2
        go_meet
        case rel => exact ⟨by rw [k2]; rfl, rfl⟩
      · have k2 : (f.k : Int) = 3 := by omega
        clear hk
        go_wp2
        go_meet
        case rel => exact ⟨rfl, rfl⟩
    case rest =>
      obtain ⟨rfl, rfl⟩ := hcut
      clear e1 k1 hk ha'
      go_upto_region 9 with fail
      rename World => x1
      replace H0 := Lib.hid (H0.out.step (drew_below x1))
      replace HW1 : Hid (X ≤ x1.drew.heap.size) := HW1.out
      have e2 := H0.out.box.fc.c2
      refine region_plan [(true, 0), (true, 1), (true, 2), (true, 3), (true, 4), (false, 5), (true, 6)]
        (fun y => y.cell? ⟨X, 2, none⟩ = some (.int .u8 (f.s : Int))) (by kernel_rfl) (by kernel_rfl) (by kernel_rfl) rfl e2 ?_
      clear e2
      generalize x1.drew = x2 at *
      iterate 5 (refine Plan.take (v := ?_) rfl (by rfl) ?_ ?_; rotate_left 1; (focus (intro x hx; go_simp <;> (first | with_reducible rfl | rw [if_pos (by omega)]))); simp only [Act.put, List.setIfInBounds_toArray, List.set_cons_zero, List.set_cons_succ])
      refine Plan.loud rfl (fun K hK => ?_)
      go_simp
      refine (slasts_on (n := f.s) H0.out.sla).mono ?_
      rintro e x3 ⟨rfl, rfl⟩
      refine hK.out _ _ _ (fun x hx => hx) H0.out.box.fc.c2 ?_
      clear hK K
      by_cases hs : s.ses ≠ 0 ∧ f.s = s.ses
      rotate_left 1
      · rw [if_pos (by omega)] at HM
        have hd : decide (s.ses ≠ 0 ∧ f.s = s.ses) = false := by simpa using hs
        rw [hd]
        iterate 1 (refine Plan.take (v := ?_) rfl (by rfl) ?_ ?_; rotate_left 1; (focus (intro x hx; go_simp <;> (first | with_reducible rfl | rw [if_pos (by omega)]))); simp only [Act.put, List.setIfInBounds_toArray, List.set_cons_zero, List.set_cons_succ])
        refine Plan.done ?_
        go_wp2_with fail
        refine (sanswer_on H0.out.sla).mono ?_
        rintro e x4 ⟨rfl, hb4⟩
        have H4 := Lib.hid (H0.out.step hb4)
        clear hb4 H0 hd hs
        have hfR := H4.out.res.fc
        have r0 := hfR.c0
        have r1 := hfR.c1
        have r2 := hfR.c2
        have r3 := hfR.c3
        have r4 := hfR.c4
        have r5 := hfR.c5
        have q0 := hfR.fz 0
        have q1 := hfR.fz 1
        have q2 := hfR.fz 2
        have q3 := hfR.fz 3
        have q4 := hfR.fz 4
        have q5 := hfR.fz 5
        clear hfR
        go_wp2
        have T := H4.out.told [(0, .int .u8 (s.addr : Int)), (1, .int .u8 5), (2, .int .u8 (s.ses : Int)), (3, .int .u8 0), (4, .int .u8 0), (5, .slice none 0 0)] ⟨s.addr, 5, s.ses, 0, 0, []⟩ (.slice none 0 0) rfl
        refine bodyPost_ret (results_row_two rfl _ _ R 36 _ _ rfl T.1 frame_struct frame_size) rfl ?_
        refine HP.out _ _ _ HM.out ⟨none, 0, none, 0, rfl, World.ownsRow_nil _ _ _ _, World.ownsRow_nil _ _ _ _, T.2.2.2, T.2.1⟩
      · rw [if_neg (by omega)] at HM
        have hd : decide (s.ses ≠ 0 ∧ f.s = s.ses) = true := by simpa using hs
        rw [hd]
        iterate 1 (refine Plan.take (v := ?_) rfl (by rfl) ?_ ?_; rotate_left 1; (focus (intro x hx; go_simp <;> (first | with_reducible rfl | rw [if_pos (by omega)]))); simp only [Act.put, List.setIfInBounds_toArray, List.set_cons_zero, List.set_cons_succ])
        refine Plan.done ?_
        clear hd hs
        have e4 := H0.out.box.fc.c4
        go_wp2_with fail
        refine (ssettle_on H0.out.sla HN.out.tell f.c).mono ?_
        rintro e x4 ⟨rfl, g1, g2⟩
        have H4 := Lib.hid (H0.out.turn g1 g2)
        have HN4 := Lib.hid (gotS_ok HN.out f.c)
        have HW4 : Hid (X ≤ x4.heap.size) := Nat.le_trans HW1.out g2.size
        clear g1 g2 H0 HW1 e4
        have hfA := H4.out.box.fc
        have e0 := hfA.c0
        have e1 := hfA.c1
        have e2 := hfA.c2
        have e3 := hfA.c3
        have e4 := hfA.c4
        have e5 := hfA.c5
        clear hfA
        go_wp2_with fail
        refine (sfresh_on (f := f) H4.out.sla HN4.out.nx H4.out.hb HFL.out).mono ?_
        rintro e x5 ⟨A5, c5, rfl, ho, g1, g2⟩
        have HO5 := Lib.hid (own_mono ho HW4.out)
        have H5 := Lib.hid (H4.out.turn g1 g2)
        have HN5 := Lib.hid (cmdS_ok HN4.out f)
        have HW5 : Hid (X ≤ x5.heap.size) := Nat.le_trans HW4.out g2.size
        clear ho g1 g2 e0 e1 e2 e3 e4 e5 H4 HN4 HW4
        generalize cmdS (gotS s f.c) f = cs at *
        go_wp2_with fail
        refine (sreply_on H5.out.sla HN5.out.pend).mono ?_
        rintro e x6 ⟨A6, c6, rfl, ho, hb6⟩
        have H6 := Lib.hid (H5.out.step hb6)
        have HO6 := Lib.hid (own_mono ho HW5.out)
        have HO56 := Lib.hid (own_ft (B := 0) (T := []) HO5.out (Ft.of_below hb6) (by simp))
        clear ho hb6 H5 HO5 HW5
        obtain ⟨s1, out⟩ := cs
        simp only at *
        have hfR := H6.out.res.fc
        have r0 := hfR.c0
        have r1 := hfR.c1
        have r2 := hfR.c2
        have r3 := hfR.c3
        have r4 := hfR.c4
        have r5 := hfR.c5
        have q0 := hfR.fz 0
        have q1 := hfR.fz 1
        have q2 := hfR.fz 2
        have q3 := hfR.fz 3
        have q4 := hfR.fz 4
        have q5 := hfR.fz 5
        clear hfR
        go_wp2
        have T := H6.out.told [(0, .int .u8 (s1.addr : Int)), (1, .int .u8 5), (2, .int .u8 (s1.ses : Int)), (3, .int .u8 (s1.tell : Int)), (4, .int .u8 (s1.nx : Int)), (5, .slice A6 s1.pend.length c6)] (ansS s1) (.slice A6 s1.pend.length c6) rfl
        refine bodyPost_ret (results_row_two rfl _ _ R 36 _ _ rfl T.1 frame_struct frame_size) rfl ?_
        refine HP.out _ _ _ HM.out ⟨A6, c6, A5, c5, rfl, own_ft HO6.out T.2.2.1 (by decide), own_ft HO56.out T.2.2.1 (by decide), T.2.2.2, T.2.1⟩
end Emb
end Go.Proofs.Ytdcnmbglbopgdaa
namespace Go.Proofs.Ytdcnmbglbopgdaa
open Go.RowKit
namespace Emb
variable {u : Nat → Value}
/-- The cells of one. -/
structure Kcell (cur : Array Value) (k : Nat) (e : Bt) : Prop where
  d : cur[5 + k * 3]? = some (.bool e.d)
  t : cur[5 + k * 3 + 1]? = some (.bool e.t)
  s : cur[5 + k * 3 + 2]? = some (.int .i64 e.s)
/-- Four buttons q at D. -/
structure Kb (u : Nat → Value) (w : World) (D : Nat) (q : Bs) : Prop where
  ex : ∃ cur, w.heap[D]? = some (.cells cur 90 (0, 0)) ∧ cur.size = 22 ∧ (∀ k, k < 4 → Kcell cur k (q k)) ∧ ∀ i, i < 22 → i < 5 ∨ 17 ≤ i → cur[i]? = some (u i)
theorem Kb.lt {w : World} {D : Nat} {q : Bs} (h : Kb u w D q) : D < w.heap.size := by
  obtain ⟨cur, k1, _⟩ := h.ex
  exact (Array.getElem?_eq_some_iff.1 k1).1
theorem Kb.of_eq {w w' : World} {D : Nat} {q : Bs} (h : Kb u w D q) (hb : w'.heap[D]? = w.heap[D]?) : Kb u w' D q := by
  obtain ⟨cur, k1, k2⟩ := h.ex
  exact ⟨⟨cur, hb.trans k1, k2⟩⟩
theorem Kb.step {w w' : World} {D : Nat} {q : Bs} (h : Kb u w D q) (hb : Below w.heap.size w w') : Kb u w' D q := h.of_eq (hb.block D h.lt)
theorem Kb.cell {w : World} {D : Nat} {q : Bs} (h : Kb u w D q) {k : Nat} (hk : k < 4) :
    w.cell? ⟨D, 5 + k * 3, none⟩ = some (.bool (q k).d) ∧ w.cell? ⟨D, 5 + k * 3 + 1, none⟩ = some (.bool (q k).t) ∧ w.cell? ⟨D, 5 + k * 3 + 2, none⟩ = some (.int .i64 (q k).s) := by
  obtain ⟨cur, k1, _, k3, _⟩ := h.ex
  obtain ⟨q1, q2, q3⟩ := k3 k hk
  refine ⟨?_, ?_, ?_⟩ <;> simp [World.cell?, k1, q1, q2, q3]
theorem Kb.fz {w : World} {D : Nat} {q : Bs} (h : Kb u w D q) (i : Nat) : w.frozen? ⟨D, i, none⟩ = false := by
  obtain ⟨cur, k1, _⟩ := h.ex
  simp [World.frozen?, k1]
/-- A whole one is written into its place. -/
theorem Kb.whole {w : World} {D k : Nat} {q : Bs} (h : Kb u w D q) (hk : k < 4) (e : Bt) :
    Kb u (w.setCells D (5 + k * 3) (kb1 e)) D (upB q k e) ∧ Ch [D] w (w.setCells D (5 + k * 3) (kb1 e)) ∧ w.there D (5 + k * 3) 3 := by
  obtain ⟨cur, k1, k2, k3, k4⟩ := h.ex
  obtain ⟨h1, cur', h2, h3, h4, h5⟩ := setCells_heap (kb1 e) (5 + k * 3) w cur k1
  have hlen : (kb1 e).length = 3 := rfl
  rw [hlen] at h4 h5
  have hsz : 5 + k * 3 + 3 ≤ cur.size := by rw [k2]; omega
  refine ⟨⟨cur', h2, by rw [h3, k2], fun j hj => ?_, fun i hi ho => by rw [h4 i (by omega)]; exact k4 i hi ho⟩, h1, fun j hj => ?_⟩
  · unfold upB
    split
    · rename_i hkj
      subst hkj
      refine ⟨?_, ?_, ?_⟩
      · have := h5 0 (by omega) hsz; simpa [kb1] using this
      · have := h5 1 (by omega) hsz; simpa [kb1] using this
      · have := h5 2 (by omega) hsz; simpa [kb1] using this
    · rename_i hkj
      obtain ⟨q1, q2, q3⟩ := k3 j hj
      exact ⟨by rw [h4 _ (by omega)]; exact q1, by rw [h4 _ (by omega)]; exact q2, by rw [h4 _ (by omega)]; exact q3⟩
  · refine ⟨?_, h.fz _⟩
    simp [World.cell?, k1]
    omega
set_option maxRecDepth 20000 in
set_option maxHeartbeats 1600000 in
theorem kset_on {w : World} {D : Nat} {q : Bs} {b now : Int} {d : Bool} (h : Kb u w D q) (hb : BI b) :
    Calls Try.prog 16 #[.pointer (some ⟨D, 5, none⟩), .int .i64 b, .bool d, .int .i64 now] w fun e y => e = .returned (.int .i64 (setB q b d now).2) ∧ Kb u y D (setB q b d now).1 ∧ Ch [D] w y := by
  by_cases hr : 0 ≤ b ∧ b ≤ 3
  · obtain ⟨n, rfl⟩ : ∃ n : Nat, b = (n : Int) := ⟨b.toNat, by omega⟩
    have hn : n ≤ 3 := by omega
    rw [setB_nat hn]
    have hlt : (n : Int) < 4 := by omega
    have hn4 : n < 4 := by omega
    have e0 := (h.cell (k := n) hn4).1
    have HS : Hid (∀ e : Bt, (q n).set d now = e → Kb u (w.setCells D (5 + n * 3) (kb1 e)) D (upB q n ((q n).set d now)) ∧ Ch [D] w (w.setCells D (5 + n * 3) (kb1 e))) := by
      intro e he
      rw [he]
      exact ⟨(h.whole hn4 e).1, (h.whole hn4 e).2.1⟩
    have HT := Lib.hid (h.whole hn4 bt0).2.2
    have HK : Hid ((q n).set d now = q n → Kb u w D (upB q n ((q n).set d now))) := by
      intro he
      rw [he]
      have : upB q n (q n) = q := by funext k; unfold upB; split
                                     · rename_i hk; rw [hk]
                                     · rfl
      rw [this]
      exact h
    obtain ⟨s, hs⟩ : ∃ s, (q n).set d now = s := ⟨_, rfl⟩
    rw [hs] at HS HK ⊢
    generalize upB q n s = q' at *
    cases d with
    | false =>
      have HB : Hid (s = bt0) := Lib.hid hs.symm
      clear hs
      go_enter Try.func16, Try.ntmps16
      go_wp2_with fail
      refine (kknown_on hb).mono ?_
      rintro e x ⟨rfl, rfl⟩
      rw [decide_eq_true hr]
      clear hb hr h
      go_wp2_with (refine wpList_store_mid rfl 30 (.tmp 23) (.tmp 22) rfl D (5 + n * 3) (kb1 bt0).toArray rfl rfl HT.out state_size (by simp [kb1, Value.oneCell']) ?_)
      go_ret
      exact ⟨rfl, HS.out _ HB.out⟩
    | true =>
      cases hd : (q n).d with
      | false =>
        have HB : Hid (s = ⟨true, now, false⟩) := by
          show _ = _
          rw [← hs]
          unfold Bt.set
          rw [hd]
          rfl
        rw [hd] at e0
        clear hs hd
        go_enter Try.func16, Try.ntmps16
        go_wp2_with fail
        refine (kknown_on hb).mono ?_
        rintro e x ⟨rfl, rfl⟩
        rw [decide_eq_true hr]
        clear hb hr h
        go_wp2_with (refine wpList_store_mid rfl 30 (.tmp 33) (.tmp 32) rfl D (5 + n * 3) (kb1 ⟨true, now, false⟩).toArray rfl rfl HT.out state_size (by simp [kb1, Value.oneCell']) ?_)
        go_ret
        exact ⟨rfl, HS.out _ HB.out⟩
      | true =>
        have HB : Hid (s = q n) := by
          show _ = _
          rw [← hs]
          unfold Bt.set
          rw [hd]
          rfl
        rw [hd] at e0
        clear hs hd
        go_enter Try.func16, Try.ntmps16
        go_wp2_with fail
        refine (kknown_on hb).mono ?_
        rintro e x ⟨rfl, rfl⟩
        rw [decide_eq_true hr]
        clear hb hr h
        go_wp2
        go_ret
        exact ⟨rfl, HK.out HB.out, Ch.refl _ _⟩
  · rw [setB_out hr]
    have H := Lib.hid h
    go_enter Try.func16, Try.ntmps16
    go_wp2_with fail
    refine (kknown_on hb).mono ?_
    rintro e x ⟨rfl, rfl⟩
    rw [decide_eq_false hr]
    clear hb hr h
    go_wp2
    go_ret
    exact ⟨rfl, H.out, Ch.refl _ _⟩


set_option maxRecDepth 20000 in
set_option maxHeartbeats 1600000 in
theorem kbdue_on {w : World} {D k : Nat} {e : Bt} {n : Int} (hd : w.cell? ⟨D, 5 + k * 3, none⟩ = some (.bool e.d)) (ht : w.cell? ⟨D, 5 + k * 3 + 1, none⟩ = some (.bool e.t)) (hc : w.cell? ⟨D, 5 + k * 3 + 2, none⟩ = some (.int .i64 e.s)) (hs : BI e.s) (hn : BI n) :
    Calls Try.prog 40 #[.pointer (some ⟨D, 5 + k * 3, none⟩), .int .i64 n] w fun r w' => r = .returned (.bool (e.due n)) ∧ w' = w := by
  unfold Bt.due
  obtain ⟨d, s, t⟩ := e
  simp only at hd ht hc hs ⊢
  cases d with
  | false =>
    clear hs hn
    go_enter Try.func40, Try.ntmps40
    go_wp2
    go_ret
    exact ⟨rfl, rfl⟩
  | true =>
    cases t with
    | true =>
      clear hs hn
      go_enter Try.func40, Try.ntmps40
      go_wp2
      go_ret
      exact ⟨rfl, rfl⟩
    | false =>
      by_cases h : n < s
      · have hdd : Hid (decide (s + 3 ≤ n) = false) := by show _ = _; simp; omega
        generalize decide (s + 3 ≤ n) = r at *
        have hle : ¬ s ≤ n := by omega
        clear hs hn h
        go_enter Try.func40, Try.ntmps40
        go_wp2
        go_ret
        exact ⟨by rw [hdd.out]; rfl, rfl⟩
      · have hu := kb64_diff hs hn (by omega)
        have hle : s ≤ n := by omega
        obtain ⟨u1, h1⟩ : ∃ u1, n % 18446744073709551616 = u1 := ⟨_, rfl⟩
        obtain ⟨u2, h2⟩ : ∃ u2, s % 18446744073709551616 = u2 := ⟨_, rfl⟩
        rw [h1, h2] at hu
        obtain ⟨d, hd2⟩ : ∃ d, n - s = d := ⟨_, rfl⟩
        rw [hd2] at hu
        have hw1 : IntKind.u64.wrap n = u1 := by rw [← h1]; rfl
        have hw2 : IntKind.u64.wrap s = u2 := by rw [← h2]; rfl
        have hw3 : IntKind.u64.wrap (u1 - u2) = d := by rw [← hu]; rfl
        have he : decide (s + 3 ≤ n) = decide (3 ≤ d) := by
          have : (s + 3 ≤ n) ↔ 3 ≤ d := by omega
          simp [this]
        rw [he]
        clear he hs hn hd2 h
        go_enter Try.func40, Try.ntmps40
        go_wp2
        go_ret
        exact ⟨rfl, rfl⟩

set_option maxRecDepth 20000 in
set_option maxHeartbeats 6400000 in
theorem kpressed_on {w : World} {D : Nat} {q : Bs} {now : Int} (h : Kb u w D q) (hq : BOk q) (hn : BI now) :
    Calls Try.prog 18 #[.pointer (some ⟨D, 5, none⟩), .int .i64 now] w fun e y =>
    ∃ A c, e = .returned (.slice A (dueL q now 4).length c) ∧ Ir y w.heap.size (dueL q now 4).length A c (dueL q now 4) ∧ Kb u y D (midQ q now 4) ∧ Ch [D] w y := by
  have HQ := Lib.hid hq
  have HN := Lib.hid hn
  have HD0 : Hid (D < w.heap.size) := Lib.hid h.lt
  have HR0 : Hid (Kb u w D (midQ q now 0)) := by show Kb u _ _ _; rw [midQ_zero]; exact h
  have HF0 : Hid (Ch [D] w w) := Lib.hid (Ch.refl _ _)
  have HI0 : Hid (Ir w w.heap.size 0 none 0 (dueL q now 0)) := Lib.hid ⟨World.ownsRow_nil _ _ _ _, rfl⟩
  obtain ⟨j0, hj0, hy0, hy1, hy2⟩ := info_parts kinfo_int
  have HIN := Lib.hid (And.intro hj0 (And.intro hy0 (And.intro hy1 hy2)))
  clear h hq hn hj0 hy0 hy1 hy2
  go_enter Try.func18, Try.ntmps18
  go_wp2
  generalize hB : w.heap.size = B at *
  have HBE := Lib.hid hB
  clear hB
  go_loopw [5, 8] (fun ov nv wr => ∃ (n : Nat) (A : Option Addr) (c : Nat), n ≤ 4 ∧ ov = .slice A (dueL q now n).length c ∧ nv = .int .i64 n ∧ Hid (Ir wr B (dueL q now n).length A c (dueL q now n)) ∧ Hid (Kb u wr D (midQ q now n)) ∧ Hid (Ch [D] w wr)) (fun _ nv _ => 4 - (intOf nv).toNat)
  case atStart => exact ⟨0, none, 0, Nat.zero_le _, rfl, rfl, HI0, HR0, HF0⟩
  case round =>
    clear HI0 HR0 HF0
    obtain ⟨n, A, c, hn4, rfl, rfl, HI, HR, HF⟩ := hrel
    rename World => y0
    by_cases hlt : n < 4
    · have hlt1 : (n : Int) < 4 := by omega
      have HDN : Hid ((dueL q now n).length ≤ 4) := Lib.hid (by have := dueL_len q now n; omega)
      have HYE := Lib.hid (kdueL_yes (f := q) (now := now) (n := n))
      have HNO := Lib.hid (kdueL_no (f := q) (now := now) (n := n))
      have HMY := Lib.hid (midQ_yes (q := q) (now := now) (n := n))
      have HMN := Lib.hid (midQ_no (q := q) (now := now) (n := n))
      obtain ⟨e0, e1, e2⟩ := HR.out.cell hlt
      rw [midQ_at] at e0 e1 e2
      go_wp2_with fail
      refine (kbdue_on e0 e1 e2 (HQ.out n) HN.out).mono ?_
      rintro e y0 ⟨rfl, rfl⟩
      clear e0 e1 e2
      generalize (q n).due now = du at *
      generalize dueL q now n = L at *
      generalize midQ q now n = M at *
      cases du with
      | false =>
        have HI2 : Hid (Ir y0 B (dueL q now (n + 1)).length A c (dueL q now (n + 1))) := by show Ir _ _ _ _ _ _; rw [HNO.out rfl]; exact HI.out
        have HR2 : Hid (Kb u y0 D (midQ q now (n + 1))) := by show Kb u _ _ _; rw [HMN.out rfl]; exact HR.out
        have HLQ : Hid ((dueL q now (n + 1)).length = L.length) := by show _ = _; rw [HNO.out rfl]
        clear HI HR HYE HNO HMY HMN
        go_wp2
        go_roundw
        case rel => exact ⟨n + 1, A, c, by omega, by rw [HLQ.out], by go_num, HI2, HR2, HF⟩
        case measure => simp [intOf]; omega
      | true =>
        obtain ⟨s1, s2, s3⟩ := HR.out.whole hlt ⟨true, 0, true⟩
        have HK2 : Hid (Kb u (y0.setCells D (5 + n * 3) (kb1 ⟨true, 0, true⟩)) D (midQ q now (n + 1))) := by show Kb u _ _ _; rw [HMY.out rfl]; exact s1
        have HF2 := Lib.hid (HF.out.trans s2)
        have HI2 := Lib.hid (HI.out.ch s2 (by have h1 := HD0.out; have h2 := HBE.out; omega))
        have HT := Lib.hid s3
        clear s1 s2 s3 HR HF HI HMY HMN HNO
        go_upto_region 8 with (refine wpList_store_mid rfl 30 (.tmp 21) (.tmp 20) rfl D (5 + n * 3) (kb1 ⟨true, 0, true⟩).toArray rfl rfl HT.out state_size (by simp [kb1, Value.oneCell']) ?_)
        change Hid (Kb u (y0.setCells D (5 + n * 3) (kb1 ⟨true, 0, true⟩).toArray.toList) D _) at HK2
        change Hid (Ch [D] w (y0.setCells D (5 + n * 3) (kb1 ⟨true, 0, true⟩).toArray.toList)) at HF2
        change Hid (Ir (y0.setCells D (5 + n * 3) (kb1 ⟨true, 0, true⟩).toArray.toList) _ _ _ _ _) at HI2
        clear HT
        generalize y0.setCells D (5 + n * 3) (kb1 ⟨true, 0, true⟩).toArray.toList = y1 at *
        have hi3 := new_below y1 (.cells #[.int .i64 (n : Int)] 3)
        have HO7 := Lib.hid (HI2.out.step hi3).own
        have HH7 : Hid (Holds (y1.alloc (.cells #[.int .i64 (n : Int)] 3)) y1.heap.size (some ⟨y1.heap.size, 0, none⟩) [.int .i64 (n : Int)]) := Lib.hid (Holds.of_row (cs := [.int .i64 (n : Int)]) (heap_alloc_new y1 _))
        have HBY : Hid (B ≤ (y1.alloc (.cells #[.int .i64 (n : Int)] 3)).heap.size) := Lib.hid (by have h1 := HF2.out.size; rw [HBE.out] at h1; exact Nat.le_trans h1 hi3.size)
        have HR7 := Lib.hid (HK2.out.step hi3)
        have HF7 : Hid (Ch [D] w (y1.alloc (.cells #[.int .i64 (n : Int)] 3))) := Lib.hid ⟨hi3.os.trans HF2.out.os, hi3.tape.trans HF2.out.tape, hi3.output.trans HF2.out.output, Nat.le_trans HF2.out.size hi3.size, fun i hi hb => (hi3.block i (Nat.lt_of_lt_of_le hi HF2.out.size)).trans (HF2.out.block i hi hb)⟩
        have HMX : Hid (L.length + 1 ≤ maxLen ∧ (L.length + 1) * 8 ≤ 140737488355328) := Lib.hid ⟨by have := HDN.out; unfold maxLen; omega, by have := HDN.out; omega⟩
        clear hi3
        go_wp2_with (at_builtin; refine wpList_append_wide rfl (.tmp 22) (.tmp 24) 49 rfl B 3 j0 (.int .i64 0) 1 8 Try.underlying49 HIN.out.1 HIN.out.2.1 HIN.out.2.2.1 HIN.out.2.2.2 rfl (by decide) _ L.length (ics L) rfl HO7.out y1.heap.size (some ⟨y1.heap.size, 0, none⟩) 1 1 [.int .i64 (n : Int)] rfl rfl HH7.out (by intro u hu; simp at hu; subst hu; rfl) HMX.out.1 HMX.out.2 HBY.out ?_)
        intro A8 c8 x8 ho8 hg8
        have hft8 := kft_grown HO7.out hg8
        have hlow := hft8.below HBY.out
        have HR8 : Hid (Kb u x8 D (midQ q now (n + 1))) := Lib.hid (HR7.out.of_eq (hlow.block D (by have h1 := HD0.out; have h2 := HBE.out; omega)))
        have HF8 : Hid (Ch [D] w x8) := by
          have h1 := HF7.out
          exact ⟨hlow.os.trans h1.os, hlow.tape.trans h1.tape, hlow.output.trans h1.output, Nat.le_trans h1.size hlow.size, fun i hi hb => (hlow.block i (by have h2 := HBE.out; omega)).trans (h1.block i hi hb)⟩
        have HI8 : Hid (Ir x8 B (dueL q now (n + 1)).length A8 c8 (dueL q now (n + 1))) := by
          show Ir _ _ _ _ _ _
          rw [HYE.out trivial, List.length_append]
          exact ⟨by rw [ics_append]; exact ho8, by simp⟩
        have HLQ : Hid ((dueL q now (n + 1)).length = L.length + 1) := by show _ = _; rw [HYE.out trivial]; simp
        clear ho8 hg8 hft8 hlow HI2 HO7 HH7 HBY HR7 HF7 HMX HK2 HF2 HYE
        go_wp2
        go_roundw
        case rel => exact ⟨n + 1, A8, c8, by omega, by rw [HLQ.out], by go_num, HI8, HR8, HF8⟩
        case measure => simp [intOf]; omega
    · have hkn : n = 4 := by omega
      subst hkn
      go_wp2
      go_ret
      exact ⟨A, c, rfl, by rw [HBE.out]; exact HI.out, HR.out, HF.out⟩

set_option maxRecDepth 20000 in
set_option maxHeartbeats 1600000 in
theorem kreset_on {w : World} {D : Nat} {q : Bs} (h : Kb u w D q) : Calls Try.prog 22 #[.pointer (some ⟨D, 5, none⟩)] w fun e y => e = .returned (.tuple #[]) ∧ Kb u y D zeroB ∧ Ch [D] w y := by
  have HS : Hid (Kb u (w.setCells D 5 bz.toList) D zeroB ∧ Ch [D] w (w.setCells D 5 bz.toList)) := by
    obtain ⟨cur, k1, k2, k3, k4⟩ := h.ex
    obtain ⟨h1, cur', h2, h3, h4, h5⟩ := setCells_heap bz.toList 5 w cur k1
    have hlen : bz.toList.length = 12 := rfl
    rw [hlen] at h4 h5
    have g : ∀ i, i < 12 → cur'[5 + i]? = bz.toList[i]? := fun i hi => by
      have := h5 i hi (by omega)
      simpa using this
    refine ⟨⟨cur', h2, by rw [h3, k2], fun k hk => ?_, fun i hi ho => by rw [h4 i (by omega)]; exact k4 i hi ho⟩, h1⟩
    match k, hk with
    | 0, _ => exact ⟨g 0 (by omega), g 1 (by omega), g 2 (by omega)⟩
    | 1, _ => exact ⟨g 3 (by omega), g 4 (by omega), g 5 (by omega)⟩
    | 2, _ => exact ⟨g 6 (by omega), g 7 (by omega), g 8 (by omega)⟩
    | 3, _ => exact ⟨g 9 (by omega), g 10 (by omega), g 11 (by omega)⟩
  have HT : Hid (w.there D 5 12) := by
    intro j hj
    refine ⟨?_, h.fz _⟩
    obtain ⟨cur, k1, k2, k3, k4⟩ := h.ex
    simp [World.cell?, k1]
    omega
  clear h
  go_enter Try.func22, Try.ntmps22
  go_wp2_with (refine wpList_store_mid rfl 33 (.tmp 4) (.tmp 3) rfl D 5 bz rfl rfl HT.out (by kernel_rfl) (by simp [Value.oneCell']) ?_)
  go_end0
  exact ⟨rfl, HS.out⟩
end Emb
end Go.Proofs.Ytdcnmbglbopgdaa
