/-
  What layer 10's laws share: bits that are cut, steps in memory, one button alone in a call.
-/
import Derived.Test.YtgpgaeakioellaaButS
import Derived.Test.YtgpgaeakioellaaFOwnU
namespace Go.Proofs.Ytgpgaeakioellaa
set_option linter.unusedVariables false
set_option linter.unusedSimpArgs false
open Go.RowKit

theorem and3 (n : Int) : ∃ a : Nat, a ≤ 3 ∧ bits .and .i64 n 3 = (a : Int) := by
  have hm : (BitVec.ofInt 64 3).toNat = 2 ^ 2 - 1 := by decide
  have key : (BitVec.ofInt 64 n &&& BitVec.ofInt 64 3).toNat = (n % ((2 ^ 64 : Nat) : Int)).toNat % 2 ^ 2 := by
    rw [BitVec.toNat_and, BitVec.toNat_ofInt, hm, Nat.and_two_pow_sub_one_eq_mod]
  refine ⟨(n % ((2 ^ 64 : Nat) : Int)).toNat % 2 ^ 2, by omega, ?_⟩
  show IntKind.i64.wrap ((BitVec.ofInt 64 n &&& BitVec.ofInt 64 3).toNat : Nat) = _
  rw [key, IntKind.wrap_i64]
  omega
theorem and40 (n : Int) : ∃ a : Nat, a < 1099511627776 ∧ bits .and .i64 n 1099511627775 = (a : Int) := by
  have hm : (BitVec.ofInt 64 1099511627775).toNat = 2 ^ 40 - 1 := by decide
  have key : (BitVec.ofInt 64 n &&& BitVec.ofInt 64 1099511627775).toNat = (n % ((2 ^ 64 : Nat) : Int)).toNat % 2 ^ 40 := by
    rw [BitVec.toNat_and, BitVec.toNat_ofInt, hm, Nat.and_two_pow_sub_one_eq_mod]
  have hlt : (n % ((2 ^ 64 : Nat) : Int)).toNat % 2 ^ 40 < 1099511627776 := Nat.mod_lt _ (by decide)
  refine ⟨(n % ((2 ^ 64 : Nat) : Int)).toNat % 2 ^ 40, hlt, ?_⟩
  show IntKind.i64.wrap ((BitVec.ofInt 64 n &&& BitVec.ofInt 64 1099511627775).toNat : Nat) = _
  rw [key, IntKind.wrap_i64]
  omega
structure St10 where
  k : Int
  b : Int
  d : Bool
  t : Int
def Steps10 (w : World) (P : Option Addr) (ss : List St10) : Prop :=
  ∀ (i : Nat) (s : St10), ss[i]? = some s → ∃ b o, P = some ⟨b, o, none⟩ ∧ w.cell? ⟨b, o + i * 4, none⟩ = some (.int .i64 s.k) ∧ w.cell? ⟨b, o + i * 4 + 1, none⟩ = some (.int .i64 s.b) ∧ w.cell? ⟨b, o + i * 4 + 2, none⟩ = some (.bool s.d) ∧ w.cell? ⟨b, o + i * 4 + 3, none⟩ = some (.int .i64 s.t) ∧ BI s.b ∧ BI s.t
theorem Steps10.at {w x : World} {P : Option Addr} {ss : List St10} (h : Steps10 w P ss) (hb : Below w.heap.size w x) (i : Nat) (hi : i < ss.length) :
    ∃ b o, P = some ⟨b, o, none⟩ ∧ x.cell? ⟨b, o + i * 4, none⟩ = some (.int .i64 ss[i].k) ∧ x.cell? ⟨b, o + i * 4 + 1, none⟩ = some (.int .i64 ss[i].b) ∧ x.cell? ⟨b, o + i * 4 + 2, none⟩ = some (.bool ss[i].d) ∧ x.cell? ⟨b, o + i * 4 + 3, none⟩ = some (.int .i64 ss[i].t) ∧ BI ss[i].b ∧ BI ss[i].t := by
  obtain ⟨b, o, h1, h2, h3, h4, h5, h6⟩ := h i _ (List.getElem?_eq_getElem hi)
  exact ⟨b, o, h1, (hb.cell (p := ⟨b, _, none⟩) (World.block_lt_of_cell? _ _ h2)).trans h2, (hb.cell (p := ⟨b, _, none⟩) (World.block_lt_of_cell? _ _ h3)).trans h3, (hb.cell (p := ⟨b, _, none⟩) (World.block_lt_of_cell? _ _ h4)).trans h4, (hb.cell (p := ⟨b, _, none⟩) (World.block_lt_of_cell? _ _ h5)).trans h5, h6⟩
/-- A step in a box. -/
def Bx10 (w : World) (X : Nat) (s : St10) : Prop := w.heap[X]? = some (.cells #[.int .i64 s.k, .int .i64 s.b, .bool s.d, .int .i64 s.t] 35 (0, 0))
theorem Bx10.lt {w : World} {X : Nat} {s : St10} (h : Bx10 w X s) : X < w.heap.size := (Array.getElem?_eq_some_iff.1 h).1
theorem Bx10.step {w y : World} {X : Nat} {s : St10} (h : Bx10 w X s) (hb : Below w.heap.size w y) : Bx10 y X s := (hb.block X h.lt).trans h
theorem Bx10.ch {w y : World} {D X : Nat} {s : St10} (h : Bx10 w X s) (hc : Ch [D] w y) (hX : D < X) : Bx10 y X s := (hc.block X h.lt (by simp; omega)).trans h
theorem Bx10.cells {w : World} {X : Nat} {s : St10} (h : Bx10 w X s) : w.cell? ⟨X, 0, none⟩ = some (.int .i64 s.k) ∧ w.cell? ⟨X, 1, none⟩ = some (.int .i64 s.b) ∧ w.cell? ⟨X, 2, none⟩ = some (.bool s.d) ∧ w.cell? ⟨X, 3, none⟩ = some (.int .i64 s.t) := by
  unfold Bx10 at h
  refine ⟨?_, ?_, ?_, ?_⟩ <;> simp [World.cell?, h]
section
variable {Bl : World → Nat → Bs → Prop}
/-- Who alone may be down. -/
theorem ButCond.set1 {w x : World} {D q : Nat} {b : Bt} {now : Int} {d : Bool} (BC : ButCond Bl) (hq : q ≤ 3) (h : Lb Bl w D (oneB q b) x) (hn : BI now) :
    Calls Try.prog 11 #[.pointer (some ⟨D, 0, none⟩), .int .i64 (q : Int), .bool d, .int .i64 now] x fun e y => e = .returned (.int .i64 0) ∧ Lb Bl w D (oneB q (b.set d now)) y ∧ Ch [D] x y := by
  refine (BC.setL h (b := (q : Int)) (by unfold BI; omega) hn).mono ?_
  rintro e y ⟨rfl, h1, h2⟩
  rw [one_set hq] at h1 ⊢
  exact ⟨rfl, h1, h2⟩
theorem ButCond.press1 {w x : World} {D q : Nat} {b : Bt} {now : Int} {l : List Nat} (BC : ButCond Bl) (hq : q ≤ 3) (h : Lb Bl w D (oneB q b) x) (hn : BI now) (hl : (if b.due now then [q] else []) = l) :
    Calls Try.prog 13 #[.pointer (some ⟨D, 0, none⟩), .int .i64 now] x fun e y => ∃ A c, e = .returned (.slice A l.length c) ∧ Ir y x.heap.size l.length A c l ∧ Lb Bl w D (oneB q (b.tell now)) y ∧ Ch [D] x y := by
  refine (BC.pressedL h hn).mono ?_
  rintro e y ⟨A, c, rfl, h0, h1, h2⟩
  rw [one_press hq] at h0 h1 ⊢
  simp only at h0 h1 ⊢
  rw [hl] at h0 ⊢
  exact ⟨A, c, rfl, h0, h1, h2⟩
theorem ButCond.down1 {w x : World} {D q : Nat} {b : Bt} (BC : ButCond Bl) (hq : q ≤ 3) (h : Lb Bl w D (oneB q b) x) :
    Calls Try.prog 18 #[.pointer (some ⟨D, 0, none⟩), .int .i64 (q : Int)] x fun e y => e = .returned (.bool b.d) ∧ Lb Bl w D (oneB q b) y ∧ Below x.heap.size x y := by
  refine (BC.downL h (b := (q : Int)) (by unfold BI; omega)).mono ?_
  rintro e y ⟨rfl, h1, h2⟩
  rw [one_down hq]
  exact ⟨rfl, h1, h2⟩
theorem Lb.one {w x : World} {D : Nat} (q : Nat) (h : Lb Bl w D zeroB x) : Lb Bl w D (oneB q bt0) x := by rw [oneB_zero]; exact h
end
/-- One that is held. -/
theorem held_due {s m : Int} (j : Nat) (hm : m = s + j) : (⟨true, s, decide (3 < j)⟩ : Bt).due m = decide (j = 3) := by
  subst hm
  unfold Bt.due
  by_cases h3 : j = 3
  · subst h3; simp
  · by_cases hl : 3 < j
    · simp [hl, h3]
    · have h1 : ¬ (s + 3 ≤ s + (j : Int)) := by omega
      rw [decide_eq_false h1, decide_eq_false h3]
      simp
theorem held_tell {s m : Int} (j : Nat) (hm : m = s + j) : (⟨true, s, decide (3 < j)⟩ : Bt).tell m = ⟨true, s, decide (3 < j + 1)⟩ := by
  unfold Bt.tell
  rw [held_due j hm]
  by_cases h3 : j = 3
  · subst h3; rfl
  · rw [decide_eq_false h3]
    have : (3 < j) ↔ (3 < j + 1) := by omega
    simp [this]
section
variable {Bl : World → Nat → Bs → Prop}
/-- Two of them, one behind the other. -/
structure TwoB (Bl : World → Nat → Bs → Prop) (w : World) (D E : Nat) (f h : Bs) (x : World) : Prop where
  a : Lb Bl w D f x
  b : Lb Bl w E h x
  lt : D < E
theorem TwoB.step {w x y : World} {D E : Nat} {f h : Bs} (BC : ButCond Bl) (t : TwoB Bl w D E f h x) (hb : Below x.heap.size x y) : TwoB Bl w D E f h y := ⟨t.a.step BC hb, t.b.step BC hb, t.lt⟩
theorem TwoB.one {w x y : World} {D E : Nat} {f f' h : Bs} (BC : ButCond Bl) (t : TwoB Bl w D E f h x) (h1 : Lb Bl w D f' y) (hc : Ch [D] x y) : TwoB Bl w D E f' h y :=
  ⟨h1, t.b.off BC hc (by have := t.lt; omega) t.a.le, t.lt⟩
theorem TwoB.other {w x y : World} {D E : Nat} {f h h' : Bs} (BC : ButCond Bl) (t : TwoB Bl w D E f h x) (h1 : Lb Bl w E h' y) (hc : Ch [E] x y) : TwoB Bl w D E f h' y :=
  ⟨t.a.off BC hc (by have := t.lt; omega) t.b.le, h1, t.lt⟩
theorem TwoB.far {w x y : World} {D E X : Nat} {f h : Bs} (BC : ButCond Bl) (t : TwoB Bl w D E f h x) (hc : Ch [X] x y) (hX : E < X) : TwoB Bl w D E f h y := by
  have h1 := t.lt
  have h2 := t.b.le
  exact ⟨t.a.off BC hc (by omega) (by omega), t.b.off BC hc (by omega) (by omega), t.lt⟩
theorem TwoB.start {w x : World} (BC : ButCond Bl) (hb : Below w.heap.size w x) : TwoB Bl w x.heap.size (x.heap.size + 1) zeroB zeroB ((x.alloc (.cells bz 29)).alloc (.cells bz 29)) := by
  have h1 := Lb.zero BC hb
  have h2 := Lb.zero BC h1.below
  have e : (x.alloc (.cells bz 29)).heap.size = x.heap.size + 1 := by simp
  rw [e] at h2
  exact ⟨h1.step BC (new_below _ _), h2, Nat.lt_succ_self _⟩
end
theorem but_put {D i : Nat} {T : TypeId} {w : World} {cs : Array Value} {v : Value} (h : w.heap[D]? = some (.cells cs T (0, 0))) : (w.setCell ⟨D, i, none⟩ v).heap[D]? = some (.cells (cs.setIfInBounds i v) T (0, 0)) ∧ Ch [D] w (w.setCell ⟨D, i, none⟩ v) :=
  ⟨heap_setCell_same w D i cs T v h, (Ch.refl [D] w).setCell (p := ⟨D, i, none⟩) (fun _ => by simp) _⟩
theorem Bx10.put {w : World} {X : Nat} {s : St10} (h : Bx10 w X s) (t : Int) : Bx10 (w.setCell ⟨X, 3, none⟩ (.int .i64 t)) X { s with t := t } ∧ Ch [X] w (w.setCell ⟨X, 3, none⟩ (.int .i64 t)) := by
  obtain ⟨h1, h2⟩ := but_put (i := 3) (v := .int .i64 t) h
  exact ⟨by unfold Bx10; rw [h1]; simp, h2⟩
end Go.Proofs.Ytgpgaeakioellaa
