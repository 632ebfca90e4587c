/-
  What buttons' calls must be shown to answer (ButCond: four buttons of any form in one block); the laws' walks of layer 10 are written over these conditions.
-/
import Derived.Test.YtgpgaeakioellaaButMath
import Derived.Test.YtgpgaeakioellaaFMem
import Derived.Test.YtgpgaeakioellaaFTrees
import Derived.Test.YtgpgaeakioellaaFLast
import Derived.Test.YtgpgaeakioellaaWireMem
namespace Go.Proofs.Ytgpgaeakioellaa
set_option linter.unusedVariables false
set_option linter.unusedSimpArgs false
open Go.RowKit

/-- Zero Buttons, by their cells, as the code has them. -/
abbrev bz : Array Value := #[.bool false, .bool false, .int .i64 0, .bool false, .bool false, .int .i64 0, .bool false, .bool false, .int .i64 0, .bool false, .bool false, .int .i64 0]
def ics (l : List Nat) : List Value := l.map fun (k : Nat) => .int .i64 (k : Int)
theorem ics_length (l : List Nat) : (ics l).length = l.length := by simp [ics]
theorem ics_append (a b : List Nat) : ics (a ++ b) = ics a ++ ics b := by simp [ics]
theorem ics_get {l : List Nat} {k : Nat} (h : k < l.length) : (ics l)[k]? = some (.int .i64 ((l[k]'h : Nat) : Int)) := by simp [ics, h]
/-- A row of numbers of one's own. -/
structure Ir (w : World) (B n : Nat) (A : Option Addr) (c : Nat) (l : List Nat) : Prop where
  own : w.ownsRow B 3 1 (.slice A n c) n (ics l)
  len : l.length = n
theorem Ir.step {w y : World} {B n c : Nat} {A : Option Addr} {l : List Nat} (h : Ir w B n A c l) (hb : Below w.heap.size w y) : Ir y B n A c l := ⟨own_ft (B := 0) (T := []) h.own (Ft.of_below hb) (by simp), h.len⟩
theorem Ir.ft {w y : World} {B B0 n c : Nat} {A : Option Addr} {l : List Nat} {Ts : List TypeId} (h : Ir w B n A c l) (hf : Ft B0 Ts w y) (hT : 3 ∉ Ts) : Ir y B n A c l := ⟨own_ft h.own hf hT, h.len⟩
theorem Ir.ch {w y : World} {B D n c : Nat} {A : Option Addr} {l : List Nat} (h : Ir w B n A c l) (hc : Ch [D] w y) (hD : D < B) : Ir y B n A c l := by
  refine ⟨⟨h.own.1, ?_⟩, h.len⟩
  rcases h.own.2 with hn | ⟨g, cap, cur, hv, hb, hh, r⟩
  · exact .inl hn
  · exact .inr ⟨g, cap, cur, hv, hb, (hc.block g (Array.getElem?_eq_some_iff.1 hh).1 (by simp; omega)).trans hh, r⟩
theorem Ir.cap {w : World} {B n c : Nat} {A : Option Addr} {l : List Nat} (h : Ir w B n A c l) : n ≤ c ∧ c ≤ 9223372036854775807 := by
  rcases h.own.2 with ⟨hh, h0⟩ | ⟨_, _, _, hh, _, _, h3, h4, _⟩
  · injection hh with _ h5 h6; omega
  · injection hh with _ _ h6; unfold maxLen at h4; omega
theorem Ir.holds {w : World} {B n c : Nat} {A : Option Addr} {l : List Nat} (h : Ir w B n A c l) : ∃ g, Holds w g A (ics l) := by
  rcases h.own.2 with ⟨hv, h0⟩ | ⟨g, cap, cur, hv, h1, hh, h3, h4, h5, h6⟩
  · have hb : l = [] := List.eq_nil_of_length_eq_zero (by rw [h.len]; exact h0)
    subst hb
    exact ⟨0, Holds.nil _ _ _⟩
  · refine ⟨g, own_holds (n := n) (c := c) (e := 3) ⟨h.own.1, .inr ⟨g, cap, cur, hv, Nat.zero_le _, hh, h3, h4, h5, h6⟩⟩ ?_⟩
    intro g2 hg2
    rw [hv] at hg2
    simp [Value.ownBlock] at hg2
    exact hg2.symm
theorem Ir.at {w : World} {B n c : Nat} {A : Option Addr} {l : List Nat} (h : Ir w B n A c l) (k : Nat) (hk : k < n) : ∃ g, A = some ⟨g, 0, none⟩ ∧ B ≤ g ∧ w.cell? ⟨g, k, none⟩ = some (.int .i64 ((l[k]'(by rw [h.len]; exact hk) : Nat) : Int)) ∧ w.frozen? ⟨g, k, none⟩ = false := by
  rcases h.own.2 with ⟨_, h0⟩ | ⟨g, cap, cur, hv, hb, hh, _⟩
  · omega
  · injection hv with hA _ hc
    subst hA
    exact ⟨g, rfl, hb, by rw [h.own.cellAt k (by omega), ics_get (by rw [h.len]; exact hk)], by simp [World.frozen?, hh]⟩
/-- What the calls answer: Bl w D f: in w four buttons f lie in block D. -/
structure ButCond (Bl : World → Nat → Bs → Prop) : Prop where
  keep : ∀ {w w' : World} {D : Nat} {f : Bs}, Bl w D f → w'.heap[D]? = w.heap[D]? → Bl w' D f
  lt : ∀ {w : World} {D : Nat} {f : Bs}, Bl w D f → D < w.heap.size
  zero : ∀ (w : World), Bl (w.alloc (.cells bz 29)) w.heap.size zeroB
  set : ∀ {x : World} {D : Nat} {f : Bs} {b now : Int} {d : Bool}, Bl x D f → BOk f → BI b → BI now →
    Calls Try.prog 11 #[.pointer (some ⟨D, 0, none⟩), .int .i64 b, .bool d, .int .i64 now] x fun e y => e = .returned (.int .i64 (setB f b d now).2) ∧ Bl y D (setB f b d now).1 ∧ Ch [D] x y
  pressed : ∀ {x : World} {D : Nat} {f : Bs} {now : Int}, Bl x D f → BOk f → BI now →
    Calls Try.prog 13 #[.pointer (some ⟨D, 0, none⟩), .int .i64 now] x fun e y => ∃ A c, e = .returned (.slice A (pressB f now).2.length c) ∧ Ir y x.heap.size (pressB f now).2.length A c (pressB f now).2 ∧ Bl y D (pressB f now).1 ∧ Ch [D] x y
  down : ∀ {x : World} {D : Nat} {f : Bs} {b : Int}, Bl x D f → BOk f → BI b →
    Calls Try.prog 18 #[.pointer (some ⟨D, 0, none⟩), .int .i64 b] x fun e y => e = .returned (.bool (downB f b)) ∧ Below x.heap.size x y
  reset : ∀ {x : World} {D : Nat} {f : Bs}, Bl x D f → BOk f →
    Calls Try.prog 16 #[.pointer (some ⟨D, 0, none⟩)] x fun e y => e = .returned (.tuple #[]) ∧ Bl y D zeroB ∧ Ch [D] x y
/-- Four buttons in a call that began at w. -/
structure Lb (Bl : World → Nat → Bs → Prop) (w : World) (D : Nat) (f : Bs) (x : World) : Prop where
  bl : Bl x D f
  ok : BOk f
  below : Below w.heap.size w x
  le : w.heap.size ≤ D
variable {Bl : World → Nat → Bs → Prop}
theorem below_ch {w x y : World} {E : Nat} (h : Below w.heap.size w x) (hc : Ch [E] x y) (hE : w.heap.size ≤ E) : Below w.heap.size w y :=
  h.trans ⟨hc.os, hc.tape, hc.output, hc.size, fun k hk => hc.block k (by have := h.size; omega) (by simp; omega)⟩
theorem Lb.step {w x y : World} {D : Nat} {f : Bs} (BC : ButCond Bl) (h : Lb Bl w D f x) (hb : Below x.heap.size x y) : Lb Bl w D f y :=
  ⟨BC.keep h.bl (hb.block D (BC.lt h.bl)), h.ok, h.below.trans (hb.mono h.below.size), h.le⟩
theorem Lb.off {w x y : World} {D E : Nat} {f : Bs} (BC : ButCond Bl) (h : Lb Bl w D f x) (hc : Ch [E] x y) (hE : E ≠ D) (hw : w.heap.size ≤ E) : Lb Bl w D f y :=
  ⟨BC.keep h.bl (hc.block D (BC.lt h.bl) (by simp; omega)), h.ok, below_ch h.below hc hw, h.le⟩
theorem Lb.turn {w x y : World} {D : Nat} {f f' : Bs} (h : Lb Bl w D f x) (hb : Bl y D f') (hk : BOk f') (hc : Ch [D] x y) : Lb Bl w D f' y :=
  ⟨hb, hk, below_ch h.below hc h.le, h.le⟩
theorem Lb.low {w x y : World} {D B : Nat} {f : Bs} (BC : ButCond Bl) (h : Lb Bl w D f x) (hD : D < B) (hb : Below B x y) : Lb Bl w D f y := by
  have h1 := h.le
  exact ⟨BC.keep h.bl (hb.block D hD), h.ok, h.below.trans (hb.mono (by omega)), h.le⟩
theorem Lb.zero {w x : World} (BC : ButCond Bl) (hb : Below w.heap.size w x) : Lb Bl w x.heap.size zeroB (x.alloc (.cells bz 29)) :=
  ⟨BC.zero x, zeroB_ok, hb.trans ((new_below x _).mono hb.size), hb.size⟩
theorem Lb.lt {w x : World} {D : Nat} {f : Bs} (BC : ButCond Bl) (h : Lb Bl w D f x) : D < x.heap.size := BC.lt h.bl
theorem ButCond.setL {w x : World} {D : Nat} {f : Bs} {b now : Int} {d : Bool} (BC : ButCond Bl) (h : Lb Bl w D f x) (hb : BI b) (hn : BI now) :
    Calls Try.prog 11 #[.pointer (some ⟨D, 0, none⟩), .int .i64 b, .bool d, .int .i64 now] x fun e y => e = .returned (.int .i64 (setB f b d now).2) ∧ Lb Bl w D (setB f b d now).1 y ∧ Ch [D] x y := by
  refine (BC.set h.bl h.ok hb hn).mono ?_
  rintro e y ⟨rfl, h1, h2⟩
  exact ⟨rfl, h.turn h1 (setB_ok h.ok _ _ hn) h2, h2⟩
theorem ButCond.pressedL {w x : World} {D : Nat} {f : Bs} {now : Int} (BC : ButCond Bl) (h : Lb Bl w D f x) (hn : BI now) :
    Calls Try.prog 13 #[.pointer (some ⟨D, 0, none⟩), .int .i64 now] x fun e y => ∃ A c, e = .returned (.slice A (pressB f now).2.length c) ∧ Ir y x.heap.size (pressB f now).2.length A c (pressB f now).2 ∧ Lb Bl w D (pressB f now).1 y ∧ Ch [D] x y := by
  refine (BC.pressed h.bl h.ok hn).mono ?_
  rintro e y ⟨A, c, rfl, h0, h1, h2⟩
  exact ⟨A, c, rfl, h0, h.turn h1 (pressB_ok h.ok _) h2, h2⟩
theorem ButCond.downL {w x : World} {D : Nat} {f : Bs} {b : Int} (BC : ButCond Bl) (h : Lb Bl w D f x) (hb : BI b) :
    Calls Try.prog 18 #[.pointer (some ⟨D, 0, none⟩), .int .i64 b] x fun e y => e = .returned (.bool (downB f b)) ∧ Lb Bl w D f y ∧ Below x.heap.size x y := by
  refine (BC.down h.bl h.ok hb).mono ?_
  rintro e y ⟨rfl, h1⟩
  exact ⟨rfl, h.step BC h1, h1⟩
theorem ButCond.resetL {w x : World} {D : Nat} {f : Bs} (BC : ButCond Bl) (h : Lb Bl w D f x) :
    Calls Try.prog 16 #[.pointer (some ⟨D, 0, none⟩)] x fun e y => e = .returned (.tuple #[]) ∧ Lb Bl w D zeroB y ∧ Ch [D] x y := by
  refine (BC.reset h.bl h.ok).mono ?_
  rintro e y ⟨rfl, h1, h2⟩
  exact ⟨rfl, h.turn h1 zeroB_ok h2, h2⟩

set_option maxRecDepth 20000 in
set_option maxHeartbeats 1600000 in
/-- Are two rows of numbers the same? -/
theorem same_on {w : World} {g g' n m c c' : Nat} {A A' : Option Addr} {l l' : List Nat} (h : Holds w g A (ics l)) (h' : Holds w g' A' (ics l')) (hn : l.length = n) (hm : l'.length = m) (hk : n ≤ 40) (hc : n ≤ c) (hc' : m ≤ c') :
    Calls Try.prog 14 #[.slice A n c, .slice A' m c'] w fun e w' => e = .returned (.bool (decide (l = l'))) ∧ Below w.heap.size w w' := by
  have HH := Lib.hid h
  have HH' := Lib.hid h'
  have HL := Lib.hid hn
  have HL' := Lib.hid hm
  by_cases hnm : n = m
  rotate_left 1
  · have HD : Hid (decide (l = l') = false) := by
      show _ = _
      simp
      rintro rfl
      omega
    have hnm' : ((n : Int) == (m : Int)) = false := by simp; omega
    generalize decide (l = l') = r at *
    clear h h' hn hm hnm
    go_enter Try.func14, Try.ntmps14
    go_wp2
    go_ret
    exact ⟨by rw [HD.out]; rfl, Below.refl _ _⟩
  · subst hnm
    have HD1 : Hid (∀ k (h1 : k < l.length) (h2 : k < l'.length), l[k] ≠ l'[k] → decide (l = l') = false) := by
      intro k h1 h2 h3
      simp
      rintro rfl
      exact h3 rfl
    have HD2 : Hid ((∀ k (h1 : k < l.length) (h2 : k < l'.length), l[k] = l'[k]) → decide (l = l') = true) := by
      intro h1
      simp
      exact List.ext_getElem (by omega) (fun k h2 h3 => h1 k h2 h3)
    generalize decide (l = l') = r at *
    have HB0 : Hid (Below w.heap.size w w) := Lib.hid (Below.refl _ _)
    clear h h' hn hm
    go_enter Try.func14, Try.ntmps14
    go_wp2
    go_loopw [5] (fun j wr => ∃ (i : Nat), i ≤ n ∧ j = .int .i64 i ∧ Hid (∀ k (h1 : k < l.length) (h2 : k < l'.length), k < i → l[k] = l'[k]) ∧ Hid (Below w.heap.size w wr)) (fun j _ => n - (intOf j).toNat)
    case atStart => exact ⟨0, Nat.zero_le _, rfl, Lib.hid (fun k _ _ hk => by omega), HB0⟩
    case round =>
      clear HB0
      obtain ⟨i, hi, rfl, HE, HB⟩ := hrel
      rename World => x
      by_cases hlt : i < n
      · have hlt1 : (i : Int) < (n : Int) := by omega
        have hil : i < l.length := by rw [HL.out]; exact hlt
        have hil' : i < l'.length := by rw [HL'.out]; exact hlt
        have hx := HH.out (by rw [ics_length]; omega)
        obtain ⟨hgw, o, rfl, hcell⟩ := hx
        have hx' := HH'.out (by rw [ics_length]; omega)
        obtain ⟨hgw', o', rfl, hcell'⟩ := hx'
        have e0 := (HB.out.cell (p := ⟨g, o + i, none⟩) hgw).trans (hcell i _ (ics_get hil))
        have e1 := (HB.out.cell (p := ⟨g', o' + i, none⟩) hgw').trans (hcell' i _ (ics_get hil'))
        obtain ⟨u, hu⟩ : ∃ u, l[i] = u := ⟨_, rfl⟩
        obtain ⟨v, hv⟩ : ∃ v, l'[i] = v := ⟨_, rfl⟩
        rw [hu] at e0
        rw [hv] at e1
        have HU := Lib.hid hu
        have HV := Lib.hid hv
        clear hu hv hcell hcell' hgw hgw'
        go_upto_region 6 with fail
        have HD := Lib.hid (drew_below x)
        have HB2 := Lib.hid (HB.out.trans (HD.out.mono HB.out.size))
        refine region_plan [(true, 0), (true, 1), (true, 2), (true, 3), (true, 4), (true, 5), (true, 6), (true, 7), (true, 8)]
          (fun z => z.cell? ⟨g, o + i, none⟩ = some (.int .i64 (u : Int)) ∧ z.cell? ⟨g', o' + i, none⟩ = some (.int .i64 (v : Int))) (by kernel_rfl) (by kernel_rfl) (by kernel_rfl) rfl ⟨e0, e1⟩ ?_
        clear e0 e1 HB HD
        generalize x.drew = y at *
        iterate 9 (refine Plan.take (v := ?_) rfl (by rfl) ?_ ?_; rotate_left 1; (focus (intro x hx; go_simp <;> (first | with_reducible rfl | rw [if_pos (by omega)]))); simp only [Act.put, List.setIfInBounds_toArray, List.set_cons_zero, List.set_cons_succ])
        refine Plan.done ?_
        by_cases huv : u = v
        · have HE2 : Hid (∀ k (h1 : k < l.length) (h2 : k < l'.length), k < i + 1 → l[k] = l'[k]) := by
            intro k h1 h2 hk
            by_cases hki : k = i
            · subst hki
              rw [HU.out, HV.out, huv]
            · exact HE.out k h1 h2 (by omega)
          subst huv
          clear HE
          go_wp2
          go_roundw
          case rel => exact ⟨i + 1, by omega, by go_num, HE2, HB2⟩
          case measure => simp [intOf]; omega
        · have huv' : ((u : Int) == (v : Int)) = false := by simp; omega
          have HR := Lib.hid (HD1.out i hil hil' (by rw [HU.out, HV.out]; exact huv))
          clear huv
          go_wp2
          go_ret
          exact ⟨by rw [HR.out]; rfl, HB2.out⟩
      · have hkn : n = i := by omega
        subst hkn
        have HR := Lib.hid (HD2.out (fun k h1 h2 => HE.out k h1 h2 (by have := HL.out; omega)))
        go_wp2
        go_ret
        exact ⟨by rw [HR.out]; rfl, HB.out⟩
end Go.Proofs.Ytgpgaeakioellaa
