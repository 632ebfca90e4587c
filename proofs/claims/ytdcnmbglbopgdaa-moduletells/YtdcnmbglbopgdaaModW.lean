/-
  A module, the document's module, buttons of one's own, side by side: each call turns its own.
-/
import Derived.Test.YtdcnmbglbopgdaaModQ
import Derived.Test.YtdcnmbglbopgdaaModV
import Derived.Test.YtdcnmbglbopgdaaButC
namespace Go.Proofs.Ytdcnmbglbopgdaa
set_option linter.unusedVariables false
set_option linter.unusedSimpArgs false
open Go.RowKit

/-- No block of a module is of the document's. -/
def ModTy (Mp : World → List Nat → Nat → Mo → Prop) : Prop := ∀ {w : World} {F : List Nat} {D : Nat} {m : Mo}, Mp w F D m → ∀ k ∈ F, ¬ BlockIn w k Tm11
/-- .. nor are buttons. -/
def ButTy (Bl : World → Nat → Bs → Prop) : Prop := ∀ {w : World} {D : Nat} {f : Bs}, Bl w D f → ¬ BlockIn w D Tm11
variable {Mp : World → List Nat → Nat → Mo → Prop} {Bl : World → Nat → Bs → Prop}
theorem Lm.addty {w x : World} {V : List Nat} {D g : Nat} {m : Mo} (MT : ModTy Mp) (h : Lm Mp w V D m x) (hg : BlockIn x g Tm11) : Lm Mp w (g :: V) D m x := by
  obtain ⟨F, h1, h2⟩ := h.ex
  refine ⟨⟨F, h1, fun k hk => ⟨(h2 k hk).1, ?_⟩⟩, h.ok, h.below, fun k hk => ?_⟩
  · simp
    refine ⟨?_, (h2 k hk).2⟩
    rintro rfl
    exact MT h1 k hk hg
  · rcases List.mem_cons.1 hk with rfl | hk
    · obtain ⟨_, _, _, k1, _⟩ := hg
      exact (Array.getElem?_eq_some_iff.1 k1).1
    · exact h.vs k hk
theorem Lm.ftm {w x y : World} {V : List Nat} {D : Nat} {m : Mo} (MC : ModCond Mp) (MT : ModTy Mp) (h : Lm Mp w V D m x) (hf : Ft w.heap.size Tm11 x y) : Lm Mp w V D m y := by
  obtain ⟨F, h1, h2⟩ := h.ex
  exact ⟨⟨F, MC.keep h1 (fun k hk => hf.block k (MC.lt h1 k hk) (.inr (MT h1 k hk))), h2⟩, h.ok, h.below.trans (hf.below h.below.size), fun k hk => Nat.lt_of_lt_of_le (h.vs k hk) hf.size⟩
theorem Lb.ftm {w x y : World} {D : Nat} {f : Bs} (BC : ButCond Bl) (BT : ButTy Bl) (h : Lb Bl w D f x) (hf : Ft w.heap.size Tm11 x y) : Lb Bl w D f y :=
  ⟨BC.keep h.bl (hf.block D (BC.lt h.bl) (.inr (BT h.bl))), h.ok, h.below.trans (hf.below h.below.size), h.le⟩
theorem Rm.in1 {x : World} {B R RS : Nat} {m : Mo} (h : Rm x B R RS m) : BlockIn x R Tm11 := ⟨_, _, _, h.row, by simp⟩
theorem Rm.in2 {x : World} {B R RS : Nat} {m : Mo} (h : Rm x B R RS m) : BlockIn x RS Tm11 := ⟨_, _, _, h.sla.row, by simp⟩
theorem Rm.with_f {x : World} {B R RS : Nat} {m : Mo} (h : Rm x B R RS m) (g : Bs) : Rm x B R RS { m with f := g } := ⟨h.le, h.row, h.sla⟩
theorem Rm.low {x : World} {B B' R RS : Nat} {m : Mo} (h : Rm x B R RS m) (hB : B' ≤ B) : Rm x B' R RS m := ⟨Nat.le_trans hB h.le, h.row, Nat.le_trans hB h.sla.le, h.sla.row⟩
/-- The three of them; V0: blocks that the module does not turn. -/
structure Mt (Mp : World → List Nat → Nat → Mo → Prop) (Bl : World → Nat → Bs → Prop) (w : World) (D OB R : Nat) (V0 : List Nat) (m mr : Mo) (f : Bs) (x : World) : Prop where
  lm : Lm Mp w (OB :: V0) D m x
  ref : ∃ RS, Rm x w.heap.size R RS mr
  lb : Lb Bl w OB f x
theorem Mt.step {w x y : World} {D OB R : Nat} {V0 : List Nat} {m mr : Mo} {f : Bs} (MC : ModCond Mp) (BC : ButCond Bl) (h : Mt Mp Bl w D OB R V0 m mr f x) (hb : Below x.heap.size x y) : Mt Mp Bl w D OB R V0 m mr f y := by
  obtain ⟨RS, h2⟩ := h.ref
  exact ⟨h.lm.step MC hb, ⟨RS, h2.step hb⟩, h.lb.step BC hb⟩
theorem Mt.less {w x : World} {D OB R : Nat} {V V' : List Nat} {m mr : Mo} {f : Bs} (h : Mt Mp Bl w D OB R V m mr f x) (hV : ∀ k ∈ V', k ∈ V) : Mt Mp Bl w D OB R V' m mr f x :=
  ⟨h.lm.less (fun k hk => by simp at hk ⊢; rcases hk with rfl | hk; exact .inl rfl; exact .inr (hV k hk)), h.ref, h.lb⟩
theorem Mt.more {w x y : World} {D OB R : Nat} {V0 : List Nat} {m mr : Mo} {f : Bs} (MC : ModCond Mp) (BC : ButCond Bl) (h : Mt Mp Bl w D OB R V0 m mr f x) (hb : Below x.heap.size x y) (hy : x.heap.size < y.heap.size) : Mt Mp Bl w D OB R (x.heap.size :: V0) m mr f y := by
  have h' := h.step MC BC hb
  exact ⟨(h.lm.more MC hb hy).less (fun k hk => by simp at hk ⊢; rcases hk with rfl | rfl | hk <;> simp [*]), h'.ref, h'.lb⟩
/-- A block of V0 is written. -/
theorem Mt.off {w x y : World} {D OB R X : Nat} {V0 : List Nat} {m mr : Mo} {f : Bs} (MC : ModCond Mp) (BC : ButCond Bl) (h : Mt Mp Bl w D OB R V0 m mr f x) (hc : Ch [X] x y) (hX : X ∈ V0) (hw : w.heap.size ≤ X) (hO : X ≠ OB) (hn : ¬ BlockIn x X Tm11) : Mt Mp Bl w D OB R V0 m mr f y := by
  obtain ⟨RS, h2⟩ := h.ref
  refine ⟨h.lm.off MC hc (by simp [hX]) hw, ⟨RS, h2.same (hc.block R h2.lt ?_) (hc.block RS h2.sla.lt ?_)⟩, h.lb.off BC hc hO hw⟩
  · simp; rintro rfl; exact hn h2.in1
  · simp; rintro rfl; exact hn h2.in2
/-- The module turned. -/
theorem Mt.mod {w x y : World} {D OB R : Nat} {V0 : List Nat} {m m' mr : Mo} {f : Bs} (BC : ButCond Bl) (h : Mt Mp Bl w D OB R V0 m mr f x) {RS : Nat} (hr : Rm x w.heap.size R RS mr) (hl : Lm Mp w (RS :: R :: OB :: V0) D m' y) (hv : Vs (RS :: R :: OB :: V0) x y) : Mt Mp Bl w D OB R V0 m' mr f y ∧ Vs V0 x y :=
  ⟨⟨hl.less (fun k hk => by simp at hk ⊢; rcases hk with rfl | hk <;> simp [*]), ⟨RS, hr.same (hv.block R (by simp)) (hv.block RS (by simp))⟩, BC.keep h.lb.bl (hv.block OB (by simp)), h.lb.ok, hl.below, h.lb.le⟩, hv.less (fun k hk => by simp [hk])⟩
theorem Mt.wide {w x : World} {D OB R : Nat} {V0 : List Nat} {m mr : Mo} {f : Bs} (MT : ModTy Mp) (h : Mt Mp Bl w D OB R V0 m mr f x) : ∃ RS, Rm x w.heap.size R RS mr ∧ Lm Mp w (RS :: R :: OB :: V0) D m x := by
  obtain ⟨RS, h2⟩ := h.ref
  exact ⟨RS, h2, (h.lm.addty MT h2.in1).addty MT h2.in2⟩
section
variable {w x : World} {D OB R : Nat} {V0 : List Nat} {m mr : Mo} {f : Bs}
theorem mt_take {g c : Nat} {F : Fr} {A : Option Addr} (MC : ModCond Mp) (MT : ModTy Mp) (BC : ButCond Bl) (h : Mt Mp Bl w D OB R V0 m mr f x) (hh : Holds x g A (bcs F.b)) (hg : F.b.length = 0 ∨ g < w.heap.size ∨ g ∈ V0) (hf : F.Fits) (hc : F.b.length ≤ c) (hm : c ≤ 9223372036854775807) (hl : F.b.length ≤ 1000) :
    Calls Try.prog 12 #[.pointer (some ⟨D, 0, none⟩), .agg (mfc F (.slice A F.b.length c))] x fun e y => ∃ A1 c1, e = .returned (.tuple #[.agg (mfc (takeMo m F).2.1 (.slice A1 (takeMo m F).2.1.b.length c1)), .bool (takeMo m F).2.2]) ∧
      y.ownsRow x.heap.size 5 1 (.slice A1 (takeMo m F).2.1.b.length c1) (takeMo m F).2.1.b.length (bcs (takeMo m F).2.1.b) ∧ Mt Mp Bl w D OB R V0 (takeMo m F).1 mr f y ∧ Vs V0 x y := by
  obtain ⟨RS, hr, hw⟩ := h.wide MT
  refine (MC.takeL hw hh (by rcases hg with hg | hg | hg; exact .inl hg; exact .inr (.inl hg); exact .inr (.inr (by simp [hg]))) hf hc hm hl).mono ?_
  rintro e y ⟨A1, c1, rfl, h1, h2, h3⟩
  obtain ⟨h4, h5⟩ := h.mod BC hr h2 h3
  exact ⟨A1, c1, rfl, h1, h4, h5⟩
theorem mt_set {b now : Int} {d : Bool} (MC : ModCond Mp) (MT : ModTy Mp) (BC : ButCond Bl) (h : Mt Mp Bl w D OB R V0 m mr f x) (hb : BI b) (hn : BI now) :
    Calls Try.prog 15 #[.pointer (some ⟨D, 0, none⟩), .int .i64 b, .bool d, .int .i64 now] x fun e y => e = .returned (.int .i64 (setB m.f b d now).2) ∧ Mt Mp Bl w D OB R V0 (setMo m b d now) mr f y ∧ Vs V0 x y := by
  obtain ⟨RS, hr, hw⟩ := h.wide MT
  refine (MC.setL hw hb hn).mono ?_
  rintro e y ⟨rfl, h2, h3⟩
  exact ⟨rfl, h.mod BC hr h2 h3⟩
theorem mt_tick {now : Int} (MC : ModCond Mp) (MT : ModTy Mp) (BC : ButCond Bl) (h : Mt Mp Bl w D OB R V0 m mr f x) (hn : BI now) :
    Calls Try.prog 17 #[.pointer (some ⟨D, 0, none⟩), .int .i64 now] x fun e y => e = .returned (.tuple #[]) ∧ Mt Mp Bl w D OB R V0 (tickMo m now) mr f y ∧ Vs V0 x y := by
  obtain ⟨RS, hr, hw⟩ := h.wide MT
  refine (MC.tickL hw hn).mono ?_
  rintro e y ⟨rfl, h2, h3⟩
  exact ⟨rfl, h.mod BC hr h2 h3⟩
theorem mt_show (MC : ModCond Mp) (BC : ButCond Bl) (h : Mt Mp Bl w D OB R V0 m mr f x) :
    Calls Try.prog 23 #[.pointer (some ⟨D, 0, none⟩)] x fun e y => e = .returned (.agg (mdc m)) ∧ Mt Mp Bl w D OB R V0 m mr f y ∧ Below x.heap.size x y := by
  refine (MC.showL h.lm).mono ?_
  rintro e y ⟨rfl, _, hb⟩
  exact ⟨rfl, h.step MC BC hb, hb⟩
theorem mt_reset (MC : ModCond Mp) (MT : ModTy Mp) (BC : ButCond Bl) (h : Mt Mp Bl w D OB R V0 m mr f x) :
    Calls Try.prog 20 #[.pointer (some ⟨D, 0, none⟩)] x fun e y => e = .returned (.tuple #[]) ∧ Mt Mp Bl w D OB R V0 (resetMo m) mr f y ∧ Vs V0 x y := by
  obtain ⟨RS, hr, hw⟩ := h.wide MT
  refine (MC.resetL hw).mono ?_
  rintro e y ⟨rfl, h2, h3⟩
  exact ⟨rfl, h.mod BC hr h2 h3⟩
/-- The document's module turned. -/
theorem Mt.doc {y : World} {mr' : Mo} {RS : Nat} (MC : ModCond Mp) (MT : ModTy Mp) (BC : ButCond Bl) (BT : ButTy Bl) (h : Mt Mp Bl w D OB R V0 m mr f x) (hr : Rm y w.heap.size R RS mr') (hf : Ft w.heap.size Tm11 x y) : Mt Mp Bl w D OB R V0 m mr' f y := ⟨h.lm.ftm MC MT hf, ⟨RS, hr⟩, h.lb.ftm BC BT hf⟩
theorem mt_rtake {F : Fr} (MC : ModCond Mp) (MT : ModTy Mp) (BC : ButCond Bl) (BT : ButTy Bl) (h : Mt Mp Bl w D OB R V0 m mr f x) (hk : mr.Ok) (hl : F.b.length ≤ 1000) :
    Calls Try.prog 13 #[.pointer (some ⟨R, 0, none⟩), .agg (rcs F)] x fun e y => e = .returned (.tuple #[.agg (rcs (takeMo mr F).2.1), .bool (takeMo mr F).2.2]) ∧ Mt Mp Bl w D OB R V0 m (takeMo mr F).1 f y ∧ Ft w.heap.size Tm11 x y := by
  obtain ⟨RS, hr⟩ := h.ref
  refine (rmtake_on hr hk hl).mono ?_
  rintro e y ⟨rfl, h1, h2⟩
  exact ⟨rfl, h.doc MC MT BC BT h1 h2, h2⟩
theorem mt_rpress {b : Nat} (MC : ModCond Mp) (MT : ModTy Mp) (BC : ButCond Bl) (BT : ButTy Bl) (h : Mt Mp Bl w D OB R V0 m mr f x) (hk : mr.Ok) (hb : b ≤ 3) :
    Calls Try.prog 19 #[.pointer (some ⟨R, 0, none⟩), .int .i64 (b : Int)] x fun e y => e = .returned (.tuple #[]) ∧ Mt Mp Bl w D OB R V0 m (pressMo mr b) f y ∧ Ft w.heap.size Tm11 x y := by
  obtain ⟨RS, hr⟩ := h.ref
  refine (rmpress_on hr hk hb).mono ?_
  rintro e y ⟨rfl, h1, h2⟩
  exact ⟨rfl, h.doc MC MT BC BT h1 h2, h2⟩
theorem mt_rreset (MC : ModCond Mp) (MT : ModTy Mp) (BC : ButCond Bl) (BT : ButTy Bl) (h : Mt Mp Bl w D OB R V0 m mr f x) :
    Calls Try.prog 21 #[.pointer (some ⟨R, 0, none⟩)] x fun e y => e = .returned (.tuple #[]) ∧ Mt Mp Bl w D OB R V0 m (resetMo mr) f y ∧ Ft w.heap.size Tm11 x y := by
  obtain ⟨RS, hr⟩ := h.ref
  refine (rmreset_on hr h.lm.below.size).mono ?_
  rintro e y ⟨RS', rfl, h1, h2⟩
  exact ⟨rfl, h.doc MC MT BC BT h1 h2, h2⟩
/-- The buttons of one's own turned. -/
theorem Mt.own {y : World} {f' : Bs} (MC : ModCond Mp) (BC : ButCond Bl) (BT : ButTy Bl) (h : Mt Mp Bl w D OB R V0 m mr f x) (hb : Lb Bl w OB f' y) (hc : Ch [OB] x y) : Mt Mp Bl w D OB R V0 m mr f' y := by
  obtain ⟨RS, hr⟩ := h.ref
  refine ⟨h.lm.off MC hc (by simp) h.lb.le, ⟨RS, hr.same (hc.block R hr.lt ?_) (hc.block RS hr.sla.lt ?_)⟩, hb⟩
  · simp; rintro rfl; exact BT h.lb.bl hr.in1
  · simp; rintro rfl; exact BT h.lb.bl hr.in2
theorem mt_bset {b now : Int} {d : Bool} (MC : ModCond Mp) (BC : ButCond Bl) (BT : ButTy Bl) (h : Mt Mp Bl w D OB R V0 m mr f x) (hb : BI b) (hn : BI now) :
    Calls Try.prog 16 #[.pointer (some ⟨OB, 0, none⟩), .int .i64 b, .bool d, .int .i64 now] x fun e y => e = .returned (.int .i64 (setB f b d now).2) ∧ Mt Mp Bl w D OB R V0 m mr (setB f b d now).1 y ∧ Ch [OB] x y := by
  refine (BC.setL h.lb hb hn).mono ?_
  rintro e y ⟨rfl, h1, h2⟩
  exact ⟨rfl, h.own MC BC BT h1 h2, h2⟩
theorem mt_bpressed {now : Int} (MC : ModCond Mp) (BC : ButCond Bl) (BT : ButTy Bl) (h : Mt Mp Bl w D OB R V0 m mr f x) (hn : BI now) :
    Calls Try.prog 18 #[.pointer (some ⟨OB, 0, none⟩), .int .i64 now] x fun e y => ∃ A c, e = .returned (.slice A (pressB f now).2.length c) ∧ Ir y x.heap.size (pressB f now).2.length A c (pressB f now).2 ∧ Mt Mp Bl w D OB R V0 m mr (pressB f now).1 y ∧ Ch [OB] x y := by
  refine (BC.pressedL h.lb hn).mono ?_
  rintro e y ⟨A, c, rfl, h0, h1, h2⟩
  exact ⟨A, c, rfl, h0, h.own MC BC BT h1 h2, h2⟩
theorem mt_breset (MC : ModCond Mp) (BC : ButCond Bl) (BT : ButTy Bl) (h : Mt Mp Bl w D OB R V0 m mr f x) :
    Calls Try.prog 22 #[.pointer (some ⟨OB, 0, none⟩)] x fun e y => e = .returned (.tuple #[]) ∧ Mt Mp Bl w D OB R V0 m mr zeroB y ∧ Ch [OB] x y := by
  refine (BC.resetL h.lb).mono ?_
  rintro e y ⟨rfl, h1, h2⟩
  exact ⟨rfl, h.own MC BC BT h1 h2, h2⟩
end
end Go.Proofs.Ytdcnmbglbopgdaa
