/-
  Steps of a master, one behind the other: what stays; steps that came in, as a round of a loop reads them.
-/
import Derived.Test.YtoahjkdackccmaaMasH
namespace Go.Proofs.Ytoahjkdackccmaa
set_option linter.unusedVariables false
set_option linter.unusedSimpArgs false
open Go.RowKit

theorem sendM_addr (m : Ma) (b : List UInt8) : (sendM m b).1.addr = m.addr := by
  unfold sendM
  split
  · rfl
  · split
    · rfl
    · split <;> rfl
theorem settleM_addr (m : Ma) (c : Nat) : (settleM m c).addr = m.addr := by unfold settleM; split <;> rfl
theorem freshM_addr (m : Ma) (f : Fr) : (freshM m f).1.addr = m.addr := by unfold freshM; split <;> rfl
theorem heardM_addr (m : Ma) (f : Fr) : (heardM m f).1.addr = m.addr := by
  unfold heardM
  split
  · rfl
  · split
    · rfl
    · split
      · rfl
      · split
        · show (freshM (settleM (quiet m) f.c) f).1.addr = m.addr
          rw [freshM_addr, settleM_addr]
          rfl
        · rfl
theorem missedM_addr (m : Ma) : (missedM m).1.addr = m.addr := by unfold missedM; split <;> rfl
theorem strange {m : Ma} {f : Fr} (h : f.a = m.addr → f.k ≠ 4 ∧ f.k ≠ 5) : heardM m f = (m, [], false) := by
  have : lisM m f = false := by
    unfold lisM
    rw [decide_eq_false_iff_not]
    rintro ⟨h1, h2⟩
    have := h h1
    omega
  unfold heardM
  rw [if_pos this]

def DeafPost (w : World) (e : Ending) (w' : World) : Prop := e = .returned (.tuple #[.slice none 0 0, .bool false]) ∧ Below w.heap.size w w'
set_option maxRecDepth 20000 in
/-- What it does not listen to. -/
theorem heard_deaf {w : World} {B D c n : Nat} {m : Ma} {f : Fr} {A : Option Addr} (h : Ms w B D m) (hl : lisM m f = false) : Calls Try.prog 16 #[.pointer (some ⟨D, 0, none⟩), .agg (fcs f (.slice A n c))] w (DeafPost w) := by
  have HP : Hid (∀ w', Below w.heap.size w w' → DeafPost w (.returned (.tuple #[.slice none 0 0, .bool false])) w') := fun w' h => ⟨rfl, h⟩
  have HB := Lib.hid (new_below w (.cells (fcs f (.slice A n c)) 30))
  have H0 := Lib.hid (h.step HB.out)
  have HLI := Lib.hid hl
  clear h hl
  generalize DeafPost w = Q at *
  go_enter Try.func16, Try.ntmps16
  go_wp2_with fail
  refine (listens_on (f := f) H0.out).mono ?_
  rintro e x1 ⟨rfl, hb1⟩
  have HB1 : Hid (Below w.heap.size w x1) := HB.out.trans (hb1.mono HB.out.size)
  clear hb1
  rw [HLI.out]
  go_wp2
  exact HP.out _ HB1.out
theorem Lm.base {w0 w x : World} {D N : Nat} {m : Ma} (h : Lm w0 D N m x) (hb : Below w.heap.size w w0) : Lm w D N m x := ⟨h.mas, h.ok, hb.trans (h.below.mono hb.size), Nat.le_trans hb.size h.le⟩

theorem StepsAt.keep {w x : World} {P : Option Addr} {ss : List St7} (h : StepsAt w P ss) (hb : Below w.heap.size w x) : StepsAt x P ss := by
  intro i s hs
  obtain ⟨b, o, g, A, c, h1, h2, h3, h4, h5, h6, h7, h8, h9⟩ := h i s hs
  exact ⟨b, o, g, A, c, h1, Nat.lt_of_lt_of_le h2 hb.size, (hb.cell (p := ⟨b, o + i * 8, none⟩) h2).trans h3, h4.keep hb h2, (hb.cell (p := ⟨b, o + i * 8 + 7, none⟩) h2).trans h5, h6, h7.keep (F := []) (Ch.of_below hb) (by simp), h8, h9⟩
/-- The eight cells of a step. -/
structure Sc (x : World) (b o i : Nat) (s : St7) (A : Option Addr) (c : Nat) : Prop where
  c0 : x.cell? ⟨b, o + i * 8, none⟩ = some (.int .i64 s.k)
  c1 : x.cell? ⟨b, o + i * 8 + 1, none⟩ = some (.int .u8 (s.f.a : Int))
  c2 : x.cell? ⟨b, o + i * 8 + 2, none⟩ = some (.int .u8 (s.f.k : Int))
  c3 : x.cell? ⟨b, o + i * 8 + 3, none⟩ = some (.int .u8 (s.f.s : Int))
  c4 : x.cell? ⟨b, o + i * 8 + 4, none⟩ = some (.int .u8 (s.f.q : Int))
  c5 : x.cell? ⟨b, o + i * 8 + 5, none⟩ = some (.int .u8 (s.f.c : Int))
  c6 : x.cell? ⟨b, o + i * 8 + 6, none⟩ = some (.slice A s.f.b.length c)
  c7 : x.cell? ⟨b, o + i * 8 + 7, none⟩ = some (.bool s.own)
theorem Sc.step {w x : World} {b o i c : Nat} {s : St7} {A : Option Addr} (h : Sc w b o i s A c) (hb : Below w.heap.size w x) : Sc x b o i s A c := by
  have hl : b < w.heap.size := World.block_lt_of_cell? w _ h.c0
  exact ⟨(hb.cell (p := ⟨b, _, none⟩) hl).trans h.c0, (hb.cell (p := ⟨b, _, none⟩) hl).trans h.c1, (hb.cell (p := ⟨b, _, none⟩) hl).trans h.c2, (hb.cell (p := ⟨b, _, none⟩) hl).trans h.c3, (hb.cell (p := ⟨b, _, none⟩) hl).trans h.c4, (hb.cell (p := ⟨b, _, none⟩) hl).trans h.c5, (hb.cell (p := ⟨b, _, none⟩) hl).trans h.c6, (hb.cell (p := ⟨b, _, none⟩) hl).trans h.c7⟩
theorem StepsAt.at {w : World} {P : Option Addr} {ss : List St7} (h : StepsAt w P ss) (i : Nat) (hi : i < ss.length) : ∃ b o g A c, P = some ⟨b, o, none⟩ ∧ Sc w b o i ss[i] A c ∧ ss[i].f.Fits ∧ Holds w g A (bcs ss[i].f.b) ∧ ss[i].f.b.length ≤ c ∧ c ≤ maxLen := by
  obtain ⟨b, o, g, A, c, h1, h2, h3, ⟨q0, q1, q2, q3, q4, q5⟩, h5, h6, h7, h8, h9⟩ := h i _ (List.getElem?_eq_getElem hi)
  exact ⟨b, o, g, A, c, h1, ⟨h3, q0, q1, q2, q3, q4, q5, h5⟩, h6, h7, h8, h9⟩

/-- The document's frame in a row of its own. -/
def Rx (w : World) (X : Nat) (f : Fr) : Prop := w.heap[X]? = some (.cells (rcs f) 42 (0, 0))
theorem Rx.ft {w w' : World} {B X : Nat} {T : List TypeId} {f : Fr} (h : Rx w X f) (hc : Ft B T w w') (hT : 42 ∉ T) : Rx w' X f := hc.keep h hT
theorem Rx.step {w w' : World} {X : Nat} {f : Fr} (h : Rx w X f) (hb : Below w.heap.size w w') : Rx w' X f := (hb.block X (Array.getElem?_eq_some_iff.1 h).1).trans h
structure Rc (w : World) (X : Nat) (f : Fr) : Prop where
  c0 : w.cell? ⟨X, 0, none⟩ = some (.int .u8 (f.a : Int))
  c1 : w.cell? ⟨X, 1, none⟩ = some (.int .u8 (f.k : Int))
  c2 : w.cell? ⟨X, 2, none⟩ = some (.int .u8 (f.s : Int))
  c3 : w.cell? ⟨X, 3, none⟩ = some (.int .u8 (f.q : Int))
  c4 : w.cell? ⟨X, 4, none⟩ = some (.int .u8 (f.c : Int))
  c5 : w.cell? ⟨X, 5, none⟩ = some (.string ⟨f.b.toArray⟩)
theorem Rx.rc {w : World} {X : Nat} {f : Fr} (h : Rx w X f) : Rc w X f := by
  unfold Rx at h
  constructor <;> simp [World.cell?, h]

end Go.Proofs.Ytoahjkdackccmaa
