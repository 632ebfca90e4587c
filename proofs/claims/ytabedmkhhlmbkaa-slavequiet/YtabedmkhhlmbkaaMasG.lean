/-
  A master as a law has it: from its block on, nothing turned that was there at the law's beginning.
-/
import Derived.Test.YtabedmkhhlmbkaaMasF
namespace Go.Proofs.Ytabedmkhhlmbkaa
set_option linter.unusedVariables false
set_option linter.unusedSimpArgs false
open Go.RowKit

structure Lm (w : World) (D N : Nat) (m : Ma) (x : World) : Prop where
  mas : Ms x D D m
  ok : m.Ok N
  below : Below w.heap.size w x
  le : w.heap.size ≤ D
theorem Lm.lt {w x : World} {D N : Nat} {m : Ma} (h : Lm w D N m x) : D < x.heap.size := h.mas.lt
theorem Lm.step {w x y : World} {D N : Nat} {m : Ma} (h : Lm w D N m x) (hb : Below x.heap.size x y) : Lm w D N m y := ⟨h.mas.step hb, h.ok, h.below.trans (hb.mono h.below.size), h.le⟩
theorem Lm.ft {w x y : World} {B D N : Nat} {T : List TypeId} {m : Ma} (h : Lm w D N m x) (hc : Ft B T x y) (hB : w.heap.size ≤ B) (h1 : 80 ∉ T) (h2 : 28 ∉ T) (h3 : 5 ∉ T) : Lm w D N m y :=
  ⟨h.mas.ft hc h1 h2 h3, h.ok, h.below.trans ((hc.mono hB (T' := T) (fun _ h => h)).below h.below.size), h.le⟩
theorem Lm.turn {w x y : World} {D N M : Nat} {T : List TypeId} {m m' : Ma} (h : Lm w D N m x) (hm : Ms y D D m') (ho : m'.Ok M) (hf : Ft D T x y) : Lm w D M m' y :=
  ⟨hm, ho, h.below.trans ((hf.mono h.le (T' := T) (fun _ h => h)).below h.below.size), h.le⟩
theorem Lm.more {w x : World} {D N M : Nat} {m : Ma} (h : Lm w D N m x) (hM : N ≤ M) : Lm w D M m x := ⟨h.mas, h.ok.mono hM, h.below, h.le⟩

theorem new_lm {w x : World} {a : Nat} {t : Int} (ha : a < 256) (ht : t ≤ 9223372036854775807) (hb : Below w.heap.size w x) : Calls Try.prog 35 #[.int .u8 (a : Int), .int .i64 t] x fun e y => e = .returned (.pointer (some ⟨x.heap.size, 0, none⟩)) ∧ Lm w x.heap.size 0 (newM a t) y ∧ Below x.heap.size x y := by
  refine new_on.mono ?_
  rintro e y ⟨rfl, h1, h2⟩
  exact ⟨rfl, ⟨h1, newM_ok ha ht, hb.trans (h2.mono hb.size), hb.size⟩, h2⟩
theorem state_lm {w x : World} {D N : Nat} {m : Ma} (h : Lm w D N m x) : Calls Try.prog 23 #[.pointer (some ⟨D, 0, none⟩)] x fun e y => e = .returned (.int .i64 (m.st : Int)) ∧ y = x := state_on h.mas
theorem epoch_lm {w x : World} {D N : Nat} {m : Ma} (h : Lm w D N m x) : Calls Try.prog 24 #[.pointer (some ⟨D, 0, none⟩)] x fun e y => e = .returned (.int .i64 (m.ep : Int)) ∧ y = x := epoch_on h.mas
theorem len_lm {w x : World} {D N : Nat} {m : Ma} (h : Lm w D N m x) : Calls Try.prog 25 #[.pointer (some ⟨D, 0, none⟩)] x fun e y => e = .returned (.int .i64 (m.q.length : Int)) ∧ y = x := len_on h.mas
theorem send_lm {w x : World} {D N n c : Nat} {m : Ma} {l : List UInt8} {A : Option Addr} (h : Lm w D N m x) (hb : Hb x D A l) (hn : l.length = n) : Calls Try.prog 36 #[.pointer (some ⟨D, 0, none⟩), .slice A n c] x fun e y => e = .returned (.int .i64 (sendM m l).2) ∧ Lm w D N (sendM m l).1 y ∧ Ft D [80, 28] x y := by
  refine (send_on h.mas h.ok (Nat.le_of_lt h.lt) hb hn).mono ?_
  rintro e y ⟨rfl, h1, h2⟩
  exact ⟨rfl, h.turn h1 (sendM_ok h.ok l) h2, h2⟩
theorem next_lm {w x : World} {D N : Nat} {m : Ma} (h : Lm w D N m x) : Calls Try.prog 26 #[.pointer (some ⟨D, 0, none⟩)] x fun e y => ∃ A c, e = .returned (.agg (fcs (nextM m) (.slice A (nextM m).b.length c))) ∧ y.ownsRow x.heap.size 5 1 (.slice A (nextM m).b.length c) (nextM m).b.length (bcs (nextM m).b) ∧ Lm w D N m y ∧ Below x.heap.size x y := by
  refine (next_on h.mas h.ok).mono ?_
  rintro e y ⟨A, c, rfl, h1, h2⟩
  exact ⟨A, c, rfl, h1, h.step h2, h2⟩
theorem heard_lm {w x : World} {D N c : Nat} {m : Ma} {f : Fr} {A : Option Addr} (h : Lm w D N m x) (hle : N ≤ 1000000) (hb : Hb x D A f.b) (hfl : f.b.length ≤ 1000000) : Calls Try.prog 27 #[.pointer (some ⟨D, 0, none⟩), .agg (fcs f (.slice A f.b.length c))] x fun e y =>
    ∃ A c, e = .returned (.tuple #[.slice A (heardM m f).2.1.length c, .bool (heardM m f).2.2]) ∧ y.ownsRow x.heap.size 5 1 (.slice A (heardM m f).2.1.length c) (heardM m f).2.1.length (bcs (heardM m f).2.1) ∧ Lm w D (N + 1) (heardM m f).1 y ∧ Ft D [80, 28] x y := by
  refine (heard_on h.mas h.ok hle hb hfl).mono ?_
  rintro e y ⟨A', c', rfl, h1, h2, h3⟩
  exact ⟨A', c', rfl, h1, h.turn h2 (heardM_ok h.ok f) h3, h3⟩

/-- A field of a frame that a call hands back. -/
theorem field_ses (a k s q c : Int) (V : Value) (w : World) : (Instr.field 30 (.agg #[.int .u8 a, .int .u8 k, .int .u8 s, .int .u8 q, .int .u8 c, V]) 2).run Try.prog w = .ok (.int .u8 s) w := by kernel_rfl
theorem field_ack (a k s q c : Int) (V : Value) (w : World) : (Instr.field 30 (.agg #[.int .u8 a, .int .u8 k, .int .u8 s, .int .u8 q, .int .u8 c, V]) 4).run Try.prog w = .ok (.int .u8 c) w := by kernel_rfl

/-- Bytes that came in, and bytes of a new row. -/
theorem Hb.of_arg {w x : World} {D g : Nat} {A : Option Addr} {l : List UInt8} (h : Holds w g A (bcs l)) (hb : Below w.heap.size w x) (hle : w.heap.size ≤ D) : Hb x D A l := by
  by_cases hl : l.length = 0
  · exact ⟨g, h.keep (F := []) (Ch.of_below hb) (by simp), .inr (.inr hl)⟩
  · exact ⟨g, h.keep (F := []) (Ch.of_below hb) (by simp), .inl (Nat.lt_of_lt_of_le (h (by rw [bcs_length]; omega)).1 hle)⟩
theorem Hb.lit (x : World) (D : Nat) (l : List UInt8) (fz : Nat × Nat) : Hb (x.alloc (.cells (bcs l).toArray 5 fz)) D (some ⟨x.heap.size, 0, none⟩) l :=
  ⟨x.heap.size, Holds.of_row (heap_alloc_new x _), .inr (.inl ⟨_, _, _, heap_alloc_new x _, by simp⟩)⟩
theorem Hb.own {x : World} {B D n c : Nat} {A : Option Addr} {l : List UInt8} (h : x.ownsRow B 5 1 (.slice A n c) n (bcs l)) (hn : l.length = n) : Hb x D A l := by
  obtain ⟨g, h1, _⟩ := (Own1.mk (own_zero h) (B := 0) (fun _ _ => Nat.zero_le _) hn).holds
  by_cases hl : l.length = 0
  · exact ⟨g, h1, .inr (.inr hl)⟩
  · refine ⟨g, h1, .inr (.inl ?_)⟩
    obtain ⟨_, o, hA, _⟩ := h1 (by rw [bcs_length]; omega)
    rcases h.2 with ⟨_, h0⟩ | ⟨g', cap, cur, hv, _, hh, _⟩
    · omega
    · injection hv with hv
      rw [hA] at hv
      injection hv with hv
      injection hv with hv
      subst hv
      exact ⟨_, _, _, hh, by simp⟩

end Go.Proofs.Ytabedmkhhlmbkaa
