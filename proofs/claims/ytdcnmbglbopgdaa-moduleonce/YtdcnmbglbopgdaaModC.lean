/-
  What a module's calls must be shown to answer (ModCond: a module of any form in memory, its blocks in a list F; what a call turns lies in F, and what it has then lies in F or is new); the laws' walks of layer 11 are written over these conditions.
-/
import Derived.Test.YtdcnmbglbopgdaaModMath
import Derived.Test.YtdcnmbglbopgdaaFMem
import Derived.Test.YtdcnmbglbopgdaaFTrees
import Derived.Test.YtdcnmbglbopgdaaFLast
import Derived.Test.YtdcnmbglbopgdaaWireMem
import Derived.Test.YtdcnmbglbopgdaaFObj
namespace Go.Proofs.Ytdcnmbglbopgdaa
set_option linter.unusedVariables false
set_option linter.unusedSimpArgs false
open Go.RowKit

abbrev mfc (f : Fr) (V : Value) : Array Value := #[.int .u8 (f.a : Int), .int .u8 (f.k : Int), .int .u8 (f.s : Int), .int .u8 (f.q : Int), .int .u8 (f.c : Int), V]
abbrev mdc (m : Mo) : Array Value := #[.bool m.lit, .bool m.lat, .int .u16 (m.tok : Int), .int .u16 (m.qty : Int), .int .u16 (m.most : Int)]
/-- A module behind a call. -/
def Mq (Mp : World → List Nat → Nat → Mo → Prop) (F : List Nat) (x y : World) (D : Nat) (m : Mo) : Prop := ∃ F', Mp y F' D m ∧ Ch F x y ∧ ∀ k ∈ F', k ∈ F ∨ x.heap.size ≤ k
structure ModCond (Mp : World → List Nat → Nat → Mo → Prop) : Prop where
  keep : ∀ {w w' : World} {F : List Nat} {D : Nat} {m : Mo}, Mp w F D m → (∀ k ∈ F, w'.heap[k]? = w.heap[k]?) → Mp w' F D m
  lt : ∀ {w : World} {F : List Nat} {D : Nat} {m : Mo}, Mp w F D m → ∀ k ∈ F, k < w.heap.size
  new : ∀ {x : World} {a : Nat}, a < 256 → Calls Try.prog 10 #[.int .u8 (a : Int)] x fun e y => ∃ D F, e = .returned (.pointer (some ⟨D, 0, none⟩)) ∧ Mp y F D (newMo a) ∧ Below x.heap.size x y ∧ ∀ k ∈ F, x.heap.size ≤ k
  take : ∀ {x : World} {F : List Nat} {D g c : Nat} {m : Mo} {f : Fr} {A : Option Addr}, Mp x F D m → m.Ok → Holds x g A (bcs f.b) → (f.b.length = 0 ∨ g ∉ F) → f.Fits → f.b.length ≤ c → c ≤ 9223372036854775807 → f.b.length ≤ 1000 →
    Calls Try.prog 12 #[.pointer (some ⟨D, 0, none⟩), .agg (mfc f (.slice A f.b.length c))] x fun e y => ∃ A1 c1, e = .returned (.tuple #[.agg (mfc (takeMo m f).2.1 (.slice A1 (takeMo m f).2.1.b.length c1)), .bool (takeMo m f).2.2]) ∧
      y.ownsRow x.heap.size 5 1 (.slice A1 (takeMo m f).2.1.b.length c1) (takeMo m f).2.1.b.length (bcs (takeMo m f).2.1.b) ∧ Mq Mp F x y D (takeMo m f).1
  set : ∀ {x : World} {F : List Nat} {D : Nat} {m : Mo} {b now : Int} {d : Bool}, Mp x F D m → m.Ok → BI b → BI now →
    Calls Try.prog 15 #[.pointer (some ⟨D, 0, none⟩), .int .i64 b, .bool d, .int .i64 now] x fun e y => e = .returned (.int .i64 (setB m.f b d now).2) ∧ Mq Mp F x y D (setMo m b d now)
  tick : ∀ {x : World} {F : List Nat} {D : Nat} {m : Mo} {now : Int}, Mp x F D m → m.Ok → BI now →
    Calls Try.prog 17 #[.pointer (some ⟨D, 0, none⟩), .int .i64 now] x fun e y => e = .returned (.tuple #[]) ∧ Mq Mp F x y D (tickMo m now)
  show_ : ∀ {x : World} {F : List Nat} {D : Nat} {m : Mo}, Mp x F D m → m.Ok →
    Calls Try.prog 23 #[.pointer (some ⟨D, 0, none⟩)] x fun e y => e = .returned (.agg (mdc m)) ∧ Below x.heap.size x y
  reset : ∀ {x : World} {F : List Nat} {D : Nat} {m : Mo}, Mp x F D m → m.Ok →
    Calls Try.prog 20 #[.pointer (some ⟨D, 0, none⟩)] x fun e y => e = .returned (.tuple #[]) ∧ Mq Mp F x y D (resetMo m)
  cbytes : ∀ {x : World} {k t q : Nat}, k < 256 → t < 65536 → q < 65536 → Calls Try.prog 24 #[.agg #[.int .u8 (k : Int), .int .u16 (t : Int), .int .u16 (q : Int)]] x fun e y =>
    ∃ A c, e = .returned (.slice A 5 c) ∧ y.ownsRow x.heap.size 5 1 (.slice A 5 c) 5 (bcs (txt5 k t q)) ∧ Below x.heap.size x y
  ebytes : ∀ {x : World} {k t q : Nat}, k < 256 → t < 65536 → q < 65536 → Calls Try.prog 25 #[.agg #[.int .u8 (k : Int), .int .u16 (t : Int), .int .u16 (q : Int)]] x fun e y =>
    ∃ A c, e = .returned (.slice A 5 c) ∧ y.ownsRow x.heap.size 5 1 (.slice A 5 c) 5 (bcs (txt5 k t q)) ∧ Below x.heap.size x y
  cparse : ∀ {x : World} {g n c : Nat} {A : Option Addr} {l : List UInt8}, Holds x g A (bcs l) → l.length = n → n ≤ c → c ≤ 9223372036854775807 → n ≤ 1000 → Calls Try.prog 26 #[.slice A n c] x fun e y =>
    e = .returned (.tuple #[.agg #[.int .u8 ((parse5 l).1 : Int), .int .u16 ((parse5 l).2.1 : Int), .int .u16 ((parse5 l).2.2.1 : Int)], .int .i64 (parse5 l).2.2.2]) ∧ Below x.heap.size x y
  eparse : ∀ {x : World} {g n c : Nat} {A : Option Addr} {l : List UInt8}, Holds x g A (bcs l) → l.length = n → n ≤ c → c ≤ 9223372036854775807 → n ≤ 1000 → Calls Try.prog 27 #[.slice A n c] x fun e y =>
    e = .returned (.tuple #[.agg #[.int .u8 ((parse5 l).1 : Int), .int .u16 ((parse5 l).2.1 : Int), .int .u16 ((parse5 l).2.2.1 : Int)], .int .i64 (parse5 l).2.2.2]) ∧ Below x.heap.size x y

/-- A module in a call that began at w; the blocks V are none of its own. -/
structure Lm (Mp : World → List Nat → Nat → Mo → Prop) (w : World) (V : List Nat) (D : Nat) (m : Mo) (x : World) : Prop where
  ex : ∃ F, Mp x F D m ∧ ∀ k ∈ F, w.heap.size ≤ k ∧ k ∉ V
  ok : m.Ok
  below : Below w.heap.size w x
  vs : ∀ k ∈ V, k < x.heap.size
variable {Mp : World → List Nat → Nat → Mo → Prop}
theorem Lm.step {w x y : World} {V : List Nat} {D : Nat} {m : Mo} (MC : ModCond Mp) (h : Lm Mp w V D m x) (hb : Below x.heap.size x y) : Lm Mp w V D m y := by
  obtain ⟨F, h1, h2⟩ := h.ex
  exact ⟨⟨F, MC.keep h1 (fun k hk => hb.block k (MC.lt h1 k hk)), h2⟩, h.ok, h.below.trans (hb.mono h.below.size), fun k hk => Nat.lt_of_lt_of_le (h.vs k hk) hb.size⟩
/-- A new block is none of its own. -/
theorem Lm.more {w x y : World} {V : List Nat} {D : Nat} {m : Mo} (MC : ModCond Mp) (h : Lm Mp w V D m x) (hb : Below x.heap.size x y) (hy : x.heap.size < y.heap.size) : Lm Mp w (x.heap.size :: V) D m y := by
  have h' := h.step MC hb
  obtain ⟨F, h1, h2⟩ := h.ex
  refine ⟨⟨F, MC.keep h1 (fun k hk => hb.block k (MC.lt h1 k hk)), fun k hk => ⟨(h2 k hk).1, ?_⟩⟩, h'.ok, h'.below, ?_⟩
  · have h3 := MC.lt h1 k hk
    simp
    exact ⟨by omega, (h2 k hk).2⟩
  · intro k hk
    rcases List.mem_cons.1 hk with rfl | hk
    · exact hy
    · exact h'.vs k hk
/-- A block of V is written. -/
theorem Lm.off {w x y : World} {V : List Nat} {D X : Nat} {m : Mo} (MC : ModCond Mp) (h : Lm Mp w V D m x) (hc : Ch [X] x y) (hX : X ∈ V) (hw : w.heap.size ≤ X) : Lm Mp w V D m y := by
  obtain ⟨F, h1, h2⟩ := h.ex
  refine ⟨⟨F, MC.keep h1 (fun k hk => hc.block k (MC.lt h1 k hk) ?_), h2⟩, h.ok, ?_, fun k hk => Nat.lt_of_lt_of_le (h.vs k hk) hc.size⟩
  · have := (h2 k hk).2
    simp
    rintro rfl
    exact this hX
  · exact h.below.trans ⟨hc.os, hc.tape, hc.output, hc.size, fun k hk => hc.block k (by have := h.below.size; omega) (by simp; omega)⟩
theorem Lm.turn {w x y : World} {V F : List Nat} {D : Nat} {m m' : Mo} (h : Lm Mp w V D m x) (hF : ∀ k ∈ F, w.heap.size ≤ k ∧ k ∉ V) (hq : Mq Mp F x y D m') (hk : m'.Ok) : Lm Mp w V D m' y ∧ Vs V x y := by
  obtain ⟨F', h1, h2, h3⟩ := hq
  have hs := h.below.size
  have hVs : Vs V x y := ⟨h2.os, h2.tape, h2.output, h2.size, fun k hk => h2.block k (h.vs k hk) (fun hf => (hF k hf).2 hk)⟩
  refine ⟨⟨⟨F', h1, fun k hk => ?_⟩, hk, ?_, fun k hk => Nat.lt_of_lt_of_le (h.vs k hk) h2.size⟩, hVs⟩
  · rcases h3 k hk with h4 | h4
    · exact hF k h4
    · exact ⟨by omega, fun hv => by have := h.vs k hv; omega⟩
  · exact h.below.trans ⟨h2.os, h2.tape, h2.output, h2.size, fun k hk => h2.block k (by omega) (fun hf => by have := (hF k hf).1; omega)⟩
theorem ModCond.newL {w x : World} {a : Nat} (MC : ModCond Mp) (hb : Below w.heap.size w x) (ha : a < 256) :
    Calls Try.prog 10 #[.int .u8 (a : Int)] x fun e y => ∃ D, e = .returned (.pointer (some ⟨D, 0, none⟩)) ∧ Lm Mp w [] D (newMo a) y ∧ Below x.heap.size x y := by
  refine (MC.new ha).mono ?_
  rintro e y ⟨D, F, rfl, h1, h2, h3⟩
  have := hb.size
  exact ⟨D, rfl, ⟨⟨F, h1, fun k hk => ⟨by have := h3 k hk; omega, by simp⟩⟩, newMo_ok ha, hb.trans (h2.mono hb.size), by simp⟩, h2⟩
/-- The bytes of a frame that is handed in lie in blocks of V, or ahead of all. -/
theorem ModCond.takeL {w x : World} {V : List Nat} {D g c : Nat} {m : Mo} {f : Fr} {A : Option Addr} (MC : ModCond Mp) (h : Lm Mp w V D m x) (hh : Holds x g A (bcs f.b)) (hg : f.b.length = 0 ∨ g < w.heap.size ∨ g ∈ V) (hf : f.Fits) (hc : f.b.length ≤ c) (hm : c ≤ 9223372036854775807) (hl : f.b.length ≤ 1000) :
    Calls Try.prog 12 #[.pointer (some ⟨D, 0, none⟩), .agg (mfc f (.slice A f.b.length c))] x fun e y => ∃ A1 c1, e = .returned (.tuple #[.agg (mfc (takeMo m f).2.1 (.slice A1 (takeMo m f).2.1.b.length c1)), .bool (takeMo m f).2.2]) ∧
      y.ownsRow x.heap.size 5 1 (.slice A1 (takeMo m f).2.1.b.length c1) (takeMo m f).2.1.b.length (bcs (takeMo m f).2.1.b) ∧ Lm Mp w V D (takeMo m f).1 y ∧ Vs V x y := by
  obtain ⟨F, h1, h2⟩ := h.ex
  refine (MC.take h1 h.ok hh ?_ hf hc hm hl).mono ?_
  · rcases hg with hg | hg | hg
    · exact .inl hg
    · exact .inr (fun hF => by have := (h2 g hF).1; omega)
    · exact .inr (fun hF => (h2 g hF).2 hg)
  · rintro e y ⟨A1, c1, rfl, h3, h4⟩
    obtain ⟨h5, h6⟩ := h.turn h2 h4 (takeMo_ok h.ok f hf.s)
    exact ⟨A1, c1, rfl, h3, h5, h6⟩
theorem ModCond.setL {w x : World} {V : List Nat} {D : Nat} {m : Mo} {b now : Int} {d : Bool} (MC : ModCond Mp) (h : Lm Mp w V D m x) (hb : BI b) (hn : BI now) :
    Calls Try.prog 15 #[.pointer (some ⟨D, 0, none⟩), .int .i64 b, .bool d, .int .i64 now] x fun e y => e = .returned (.int .i64 (setB m.f b d now).2) ∧ Lm Mp w V D (setMo m b d now) y ∧ Vs V x y := by
  obtain ⟨F, h1, h2⟩ := h.ex
  refine (MC.set h1 h.ok hb hn).mono ?_
  rintro e y ⟨rfl, h4⟩
  obtain ⟨h5, h6⟩ := h.turn h2 h4 (setMo_ok h.ok b d hn)
  exact ⟨rfl, h5, h6⟩
theorem ModCond.tickL {w x : World} {V : List Nat} {D : Nat} {m : Mo} {now : Int} (MC : ModCond Mp) (h : Lm Mp w V D m x) (hn : BI now) :
    Calls Try.prog 17 #[.pointer (some ⟨D, 0, none⟩), .int .i64 now] x fun e y => e = .returned (.tuple #[]) ∧ Lm Mp w V D (tickMo m now) y ∧ Vs V x y := by
  obtain ⟨F, h1, h2⟩ := h.ex
  refine (MC.tick h1 h.ok hn).mono ?_
  rintro e y ⟨rfl, h4⟩
  obtain ⟨h5, h6⟩ := h.turn h2 h4 (tickMo_ok h.ok now)
  exact ⟨rfl, h5, h6⟩
theorem ModCond.showL {w x : World} {V : List Nat} {D : Nat} {m : Mo} (MC : ModCond Mp) (h : Lm Mp w V D m x) :
    Calls Try.prog 23 #[.pointer (some ⟨D, 0, none⟩)] x fun e y => e = .returned (.agg (mdc m)) ∧ Lm Mp w V D m y ∧ Below x.heap.size x y := by
  obtain ⟨F, h1, h2⟩ := h.ex
  refine (MC.show_ h1 h.ok).mono ?_
  rintro e y ⟨rfl, h4⟩
  exact ⟨rfl, h.step MC h4, h4⟩
theorem ModCond.resetL {w x : World} {V : List Nat} {D : Nat} {m : Mo} (MC : ModCond Mp) (h : Lm Mp w V D m x) :
    Calls Try.prog 20 #[.pointer (some ⟨D, 0, none⟩)] x fun e y => e = .returned (.tuple #[]) ∧ Lm Mp w V D (resetMo m) y ∧ Vs V x y := by
  obtain ⟨F, h1, h2⟩ := h.ex
  refine (MC.reset h1 h.ok).mono ?_
  rintro e y ⟨rfl, h4⟩
  obtain ⟨h5, h6⟩ := h.turn h2 h4 (resetMo_ok h.ok)
  exact ⟨rfl, h5, h6⟩
end Go.Proofs.Ytdcnmbglbopgdaa
