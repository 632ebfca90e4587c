/-
  Steps as lamplightlaw11.ModuleTells has them, in memory.
-/
import Derived.Test.YtdcnmbglbopgdaaMasY
namespace Go.Proofs.Ytdcnmbglbopgdaa
set_option linter.unusedVariables false
set_option linter.unusedSimpArgs false
open Go.RowKit

structure St11 where
  k : Int
  n : Int
  d : Bool
  f : Fr
  own : Bool
/-- Steps as they come in. -/
def Steps11 (w : World) (P : Option Addr) (ss : List St11) : Prop :=
  ∀ i s, ss[i]? = some s → ∃ b o g A c, P = some ⟨b, o, none⟩ ∧ b < w.heap.size ∧ w.cell? ⟨b, o + i * 10, none⟩ = some (.int .i64 s.k) ∧ w.cell? ⟨b, o + i * 10 + 1, none⟩ = some (.int .i64 s.n) ∧ w.cell? ⟨b, o + i * 10 + 2, none⟩ = some (.bool s.d) ∧ FrameAt w b (o + i * 10 + 3) s.f A c ∧ w.cell? ⟨b, o + i * 10 + 9, none⟩ = some (.bool s.own) ∧
    (-9223372036854775808 ≤ s.n ∧ s.n ≤ 9223372036854775807) ∧ s.f.Fits ∧ Holds w g A (bcs s.f.b) ∧ s.f.b.length ≤ c ∧ c ≤ maxLen
structure Sc11 (x : World) (b o i : Nat) (s : St11) (A : Option Addr) (c : Nat) : Prop where
  c0 : x.cell? ⟨b, o + i * 10, none⟩ = some (.int .i64 s.k)
  c1 : x.cell? ⟨b, o + i * 10 + 1, none⟩ = some (.int .i64 s.n)
  c2 : x.cell? ⟨b, o + i * 10 + 2, none⟩ = some (.bool s.d)
  c3 : x.cell? ⟨b, o + i * 10 + 3, none⟩ = some (.int .u8 (s.f.a : Int))
  c4 : x.cell? ⟨b, o + i * 10 + 4, none⟩ = some (.int .u8 (s.f.k : Int))
  c5 : x.cell? ⟨b, o + i * 10 + 5, none⟩ = some (.int .u8 (s.f.s : Int))
  c6 : x.cell? ⟨b, o + i * 10 + 6, none⟩ = some (.int .u8 (s.f.q : Int))
  c7 : x.cell? ⟨b, o + i * 10 + 7, none⟩ = some (.int .u8 (s.f.c : Int))
  c8 : x.cell? ⟨b, o + i * 10 + 8, none⟩ = some (.slice A s.f.b.length c)
  c9 : x.cell? ⟨b, o + i * 10 + 9, none⟩ = some (.bool s.own)
theorem Sc11.lt {x : World} {b o i c : Nat} {s : St11} {A : Option Addr} (h : Sc11 x b o i s A c) : b < x.heap.size := World.block_lt_of_cell? x _ h.c0
theorem Sc11.same {w x : World} {b o i c : Nat} {s : St11} {A : Option Addr} (h : Sc11 w b o i s A c) (hb : ∀ k, x.cell? ⟨b, k, none⟩ = w.cell? ⟨b, k, none⟩) : Sc11 x b o i s A c :=
  ⟨(hb _).trans h.c0, (hb _).trans h.c1, (hb _).trans h.c2, (hb _).trans h.c3, (hb _).trans h.c4, (hb _).trans h.c5, (hb _).trans h.c6, (hb _).trans h.c7, (hb _).trans h.c8, (hb _).trans h.c9⟩
theorem Sc11.step {w x : World} {b o i c : Nat} {s : St11} {A : Option Addr} (h : Sc11 w b o i s A c) (hb : Below w.heap.size w x) : Sc11 x b o i s A c := h.same fun k => hb.cell (p := ⟨b, k, none⟩) h.lt
theorem Steps11.at {w : World} {P : Option Addr} {ss : List St11} (h : Steps11 w P ss) (i : Nat) (hi : i < ss.length) : ∃ b o g A c, P = some ⟨b, o, none⟩ ∧ Sc11 w b o i ss[i] A c ∧ (-9223372036854775808 ≤ ss[i].n ∧ ss[i].n ≤ 9223372036854775807) ∧ ss[i].f.Fits ∧ Holds w g A (bcs ss[i].f.b) ∧ ss[i].f.b.length ≤ c ∧ c ≤ maxLen := by
  obtain ⟨b, o, g, A, c, h1, h2, h3, h4, h5, ⟨q0, q1, q2, q3, q4, q5⟩, h6, h7, h8, h9, h10, h11⟩ := h i _ (List.getElem?_eq_getElem hi)
  exact ⟨b, o, g, A, c, h1, ⟨h3, h4, h5, q0, q1, q2, q3, q4, q5, h6⟩, h7, h8, h9, h10, h11⟩
end Go.Proofs.Ytdcnmbglbopgdaa
