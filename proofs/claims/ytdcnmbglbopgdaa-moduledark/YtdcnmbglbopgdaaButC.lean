/-
  What buttons' calls must be shown to answer (ButCond: four buttons of any form in one block); the laws' walks of layer 10 are written over these conditions.
-/
import Derived.Test.YtdcnmbglbopgdaaButMath
import Derived.Test.YtdcnmbglbopgdaaFMem
import Derived.Test.YtdcnmbglbopgdaaFTrees
import Derived.Test.YtdcnmbglbopgdaaFLast
import Derived.Test.YtdcnmbglbopgdaaWireMem
namespace Go.Proofs.Ytdcnmbglbopgdaa
set_option linter.unusedVariables false
set_option linter.unusedSimpArgs false
open Go.RowKit

/-- Zero Buttons, by their cells, as the code has them. -/
abbrev bz : Array Value := #[.bool false, .bool false, .int .i64 0, .bool false, .bool false, .int .i64 0, .bool false, .bool false, .int .i64 0, .bool false, .bool false, .int .i64 0]
def ics (l : List Nat) : List Value := l.map fun (k : Nat) => .int .i64 (k : Int)
theorem ics_append (a b : List Nat) : ics (a ++ b) = ics a ++ ics b := by simp [ics]
theorem ics_get {l : List Nat} {k : Nat} (h : k < l.length) : (ics l)[k]? = some (.int .i64 ((l[k]'h : Nat) : Int)) := by simp [ics, h]
/-- A row of numbers of one's own. -/
structure Ir (w : World) (B n : Nat) (A : Option Addr) (c : Nat) (l : List Nat) : Prop where
  own : w.ownsRow B 3 1 (.slice A n c) n (ics l)
  len : l.length = n
theorem Ir.step {w y : World} {B n c : Nat} {A : Option Addr} {l : List Nat} (h : Ir w B n A c l) (hb : Below w.heap.size w y) : Ir y B n A c l := ⟨own_ft (B := 0) (T := []) h.own (Ft.of_below hb) (by simp), h.len⟩
theorem Ir.ft {w y : World} {B B0 n c : Nat} {A : Option Addr} {l : List Nat} {Ts : List TypeId} (h : Ir w B n A c l) (hf : Ft B0 Ts w y) (hT : 3 ∉ Ts) : Ir y B n A c l := ⟨own_ft h.own hf hT, h.len⟩
theorem Ir.ch {w y : World} {B D n c : Nat} {A : Option Addr} {l : List Nat} (h : Ir w B n A c l) (hc : Ch [D] w y) (hD : D < B) : Ir y B n A c l := by
  refine ⟨⟨h.own.1, ?_⟩, h.len⟩
  rcases h.own.2 with hn | ⟨g, cap, cur, hv, hb, hh, r⟩
  · exact .inl hn
  · exact .inr ⟨g, cap, cur, hv, hb, (hc.block g (Array.getElem?_eq_some_iff.1 hh).1 (by simp; omega)).trans hh, r⟩
theorem Ir.cap {w : World} {B n c : Nat} {A : Option Addr} {l : List Nat} (h : Ir w B n A c l) : n ≤ c ∧ c ≤ 9223372036854775807 := by
  rcases h.own.2 with ⟨hh, h0⟩ | ⟨_, _, _, hh, _, _, h3, h4, _⟩
  · injection hh with _ h5 h6; omega
  · injection hh with _ _ h6; unfold maxLen at h4; omega
theorem Ir.holds {w : World} {B n c : Nat} {A : Option Addr} {l : List Nat} (h : Ir w B n A c l) : ∃ g, Holds w g A (ics l) := by
  rcases h.own.2 with ⟨hv, h0⟩ | ⟨g, cap, cur, hv, h1, hh, h3, h4, h5, h6⟩
  · have hb : l = [] := List.eq_nil_of_length_eq_zero (by rw [h.len]; exact h0)
    subst hb
    exact ⟨0, Holds.nil _ _ _⟩
  · refine ⟨g, own_holds (n := n) (c := c) (e := 3) ⟨h.own.1, .inr ⟨g, cap, cur, hv, Nat.zero_le _, hh, h3, h4, h5, h6⟩⟩ ?_⟩
    intro g2 hg2
    rw [hv] at hg2
    simp [Value.ownBlock] at hg2
    exact hg2.symm
theorem Ir.at {w : World} {B n c : Nat} {A : Option Addr} {l : List Nat} (h : Ir w B n A c l) (k : Nat) (hk : k < n) : ∃ g, A = some ⟨g, 0, none⟩ ∧ B ≤ g ∧ w.cell? ⟨g, k, none⟩ = some (.int .i64 ((l[k]'(by rw [h.len]; exact hk) : Nat) : Int)) ∧ w.frozen? ⟨g, k, none⟩ = false := by
  rcases h.own.2 with ⟨_, h0⟩ | ⟨g, cap, cur, hv, hb, hh, _⟩
  · omega
  · injection hv with hA _ hc
    subst hA
    exact ⟨g, rfl, hb, by rw [h.own.cellAt k (by omega), ics_get (by rw [h.len]; exact hk)], by simp [World.frozen?, hh]⟩
/-- What the calls answer: Bl w D f: in w four buttons f lie in block D. -/
structure ButCond (Bl : World → Nat → Bs → Prop) : Prop where
  keep : ∀ {w w' : World} {D : Nat} {f : Bs}, Bl w D f → w'.heap[D]? = w.heap[D]? → Bl w' D f
  lt : ∀ {w : World} {D : Nat} {f : Bs}, Bl w D f → D < w.heap.size
  zero : ∀ (w : World), Bl (w.alloc (.cells bz 33)) w.heap.size zeroB
  set : ∀ {x : World} {D : Nat} {f : Bs} {b now : Int} {d : Bool}, Bl x D f → BOk f → BI b → BI now →
    Calls Try.prog 16 #[.pointer (some ⟨D, 0, none⟩), .int .i64 b, .bool d, .int .i64 now] x fun e y => e = .returned (.int .i64 (setB f b d now).2) ∧ Bl y D (setB f b d now).1 ∧ Ch [D] x y
  pressed : ∀ {x : World} {D : Nat} {f : Bs} {now : Int}, Bl x D f → BOk f → BI now →
    Calls Try.prog 18 #[.pointer (some ⟨D, 0, none⟩), .int .i64 now] x fun e y => ∃ A c, e = .returned (.slice A (pressB f now).2.length c) ∧ Ir y x.heap.size (pressB f now).2.length A c (pressB f now).2 ∧ Bl y D (pressB f now).1 ∧ Ch [D] x y
  reset : ∀ {x : World} {D : Nat} {f : Bs}, Bl x D f → BOk f →
    Calls Try.prog 22 #[.pointer (some ⟨D, 0, none⟩)] x fun e y => e = .returned (.tuple #[]) ∧ Bl y D zeroB ∧ Ch [D] x y
/-- Four buttons in a call that began at w. -/
structure Lb (Bl : World → Nat → Bs → Prop) (w : World) (D : Nat) (f : Bs) (x : World) : Prop where
  bl : Bl x D f
  ok : BOk f
  below : Below w.heap.size w x
  le : w.heap.size ≤ D
variable {Bl : World → Nat → Bs → Prop}
theorem below_ch {w x y : World} {E : Nat} (h : Below w.heap.size w x) (hc : Ch [E] x y) (hE : w.heap.size ≤ E) : Below w.heap.size w y :=
  h.trans ⟨hc.os, hc.tape, hc.output, hc.size, fun k hk => hc.block k (by have := h.size; omega) (by simp; omega)⟩
theorem Lb.step {w x y : World} {D : Nat} {f : Bs} (BC : ButCond Bl) (h : Lb Bl w D f x) (hb : Below x.heap.size x y) : Lb Bl w D f y :=
  ⟨BC.keep h.bl (hb.block D (BC.lt h.bl)), h.ok, h.below.trans (hb.mono h.below.size), h.le⟩
theorem Lb.off {w x y : World} {D E : Nat} {f : Bs} (BC : ButCond Bl) (h : Lb Bl w D f x) (hc : Ch [E] x y) (hE : E ≠ D) (hw : w.heap.size ≤ E) : Lb Bl w D f y :=
  ⟨BC.keep h.bl (hc.block D (BC.lt h.bl) (by simp; omega)), h.ok, below_ch h.below hc hw, h.le⟩
theorem Lb.turn {w x y : World} {D : Nat} {f f' : Bs} (h : Lb Bl w D f x) (hb : Bl y D f') (hk : BOk f') (hc : Ch [D] x y) : Lb Bl w D f' y :=
  ⟨hb, hk, below_ch h.below hc h.le, h.le⟩
theorem Lb.low {w x y : World} {D B : Nat} {f : Bs} (BC : ButCond Bl) (h : Lb Bl w D f x) (hD : D < B) (hb : Below B x y) : Lb Bl w D f y := by
  have h1 := h.le
  exact ⟨BC.keep h.bl (hb.block D hD), h.ok, h.below.trans (hb.mono (by omega)), h.le⟩
theorem Lb.zero {w x : World} (BC : ButCond Bl) (hb : Below w.heap.size w x) : Lb Bl w x.heap.size zeroB (x.alloc (.cells bz 33)) :=
  ⟨BC.zero x, zeroB_ok, hb.trans ((new_below x _).mono hb.size), hb.size⟩
theorem Lb.lt {w x : World} {D : Nat} {f : Bs} (BC : ButCond Bl) (h : Lb Bl w D f x) : D < x.heap.size := BC.lt h.bl
theorem ButCond.setL {w x : World} {D : Nat} {f : Bs} {b now : Int} {d : Bool} (BC : ButCond Bl) (h : Lb Bl w D f x) (hb : BI b) (hn : BI now) :
    Calls Try.prog 16 #[.pointer (some ⟨D, 0, none⟩), .int .i64 b, .bool d, .int .i64 now] x fun e y => e = .returned (.int .i64 (setB f b d now).2) ∧ Lb Bl w D (setB f b d now).1 y ∧ Ch [D] x y := by
  refine (BC.set h.bl h.ok hb hn).mono ?_
  rintro e y ⟨rfl, h1, h2⟩
  exact ⟨rfl, h.turn h1 (setB_ok h.ok _ _ hn) h2, h2⟩
theorem ButCond.pressedL {w x : World} {D : Nat} {f : Bs} {now : Int} (BC : ButCond Bl) (h : Lb Bl w D f x) (hn : BI now) :
    Calls Try.prog 18 #[.pointer (some ⟨D, 0, none⟩), .int .i64 now] x fun e y => ∃ A c, e = .returned (.slice A (pressB f now).2.length c) ∧ Ir y x.heap.size (pressB f now).2.length A c (pressB f now).2 ∧ Lb Bl w D (pressB f now).1 y ∧ Ch [D] x y := by
  refine (BC.pressed h.bl h.ok hn).mono ?_
  rintro e y ⟨A, c, rfl, h0, h1, h2⟩
  exact ⟨A, c, rfl, h0, h.turn h1 (pressB_ok h.ok _) h2, h2⟩
theorem ButCond.resetL {w x : World} {D : Nat} {f : Bs} (BC : ButCond Bl) (h : Lb Bl w D f x) :
    Calls Try.prog 22 #[.pointer (some ⟨D, 0, none⟩)] x fun e y => e = .returned (.tuple #[]) ∧ Lb Bl w D zeroB y ∧ Ch [D] x y := by
  refine (BC.reset h.bl h.ok).mono ?_
  rintro e y ⟨rfl, h1, h2⟩
  exact ⟨rfl, h.turn h1 zeroB_ok h2, h2⟩

end Go.Proofs.Ytdcnmbglbopgdaa
