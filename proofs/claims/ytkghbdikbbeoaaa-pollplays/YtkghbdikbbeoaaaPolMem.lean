/-
  A row of a poll's addresses in memory, three cells each. No function of the program is named here.
-/
import Derived.Test.YtkghbdikbbeoaaaPolMath
import Derived.Test.YtkghbdikbbeoaaaFMem
import Derived.Test.YtkghbdikbbeoaaaFTrees
import Derived.Test.YtkghbdikbbeoaaaFLast
import Derived.Test.YtkghbdikbbeoaaaWireMem
namespace Go.Proofs.Ytkghbdikbbeoaaa
set_option linter.unusedVariables false
set_option linter.unusedSimpArgs false
open Go.RowKit

def pc1 (e : Pe) : List Value := [.int .u8 (e.a : Int), .bool e.d, .int .i64 e.t]
def pcs (l : List Pe) : List Value := l.flatMap pc1
theorem pcs_nil : pcs [] = [] := rfl
theorem pcs_cons (e : Pe) (l : List Pe) : pcs (e :: l) = .int .u8 (e.a : Int) :: .bool e.d :: .int .i64 e.t :: pcs l := rfl
theorem pcs_append (a b : List Pe) : pcs (a ++ b) = pcs a ++ pcs b := by simp [pcs]
theorem pcs_length (l : List Pe) : (pcs l).length = l.length * 3 := by
  induction l with
  | nil => rfl
  | cons e t ih => rw [pcs_cons]; simp [ih]; omega
theorem pcs_get : ∀ {l : List Pe} {k : Nat}, k < l.length → (pcs l)[k * 3]? = some (.int .u8 ((pe l k).a : Int)) ∧ (pcs l)[k * 3 + 1]? = some (.bool (pe l k).d) ∧ (pcs l)[k * 3 + 2]? = some (.int .i64 (pe l k).t)
  | [], k, h => by simp at h
  | e :: t, 0, _ => by simp [pcs_cons, pe]
  | e :: t, k + 1, h => by
    have := pcs_get (l := t) (k := k) (by simpa using h)
    have hp : pe (e :: t) (k + 1) = pe t k := by simp [pe]
    rw [hp, pcs_cons]
    rw [show (k + 1) * 3 = k * 3 + 1 + 1 + 1 by omega, show k * 3 + 1 + 1 + 1 + 1 = (k * 3 + 1) + 1 + 1 + 1 by omega, show k * 3 + 1 + 1 + 1 + 2 = (k * 3 + 2) + 1 + 1 + 1 by omega]
    simp only [List.getElem?_cons_succ]
    exact this
/-- The cells of one. -/
structure Pcell (cur : Array Value) (k : Nat) (e : Pe) : Prop where
  a : cur[k * 3]? = some (.int .u8 (e.a : Int))
  d : cur[k * 3 + 1]? = some (.bool e.d)
  t : cur[k * 3 + 2]? = some (.int .i64 e.t)
/-- A row of them in block g. -/
structure Prow (w : World) (g c : Nat) (T : TypeId) (l : List Pe) : Prop where
  ex : ∃ cur, w.heap[g]? = some (.cells cur T (0, 0)) ∧ cur.size = c * 3 ∧ ∀ k, k < l.length → Pcell cur k (pe l k)
  cap : l.length ≤ c
  max : c ≤ maxLen
theorem Prow.of_own {w : World} {B n c : Nat} {A : Option Addr} {T : TypeId} {l : List Pe} (h : w.ownsRow B T 3 (.slice A n c) n (pcs l)) (hl : 0 < l.length) : ∃ g, A = some ⟨g, 0, none⟩ ∧ B ≤ g ∧ Prow w g c T l := by
  obtain ⟨h1, h2⟩ := h
  rw [pcs_length] at h1
  have hn : l.length = n := by omega
  rcases h2 with ⟨_, h0⟩ | ⟨g, cap, cur, h3, h4, h5, h6, h7, h8, h9⟩
  · omega
  · injection h3 with e1 _ e3
    subst e1 e3
    refine ⟨g, rfl, h4, ⟨cur, h5, h8, fun k hk => ?_⟩, by omega, h7⟩
    obtain ⟨q1, q2, q3⟩ := pcs_get hk
    rw [← h9] at q1 q2 q3
    have cv : ∀ (i : Nat) (v : Value), (cur.toList.take (n * 3))[i]? = some v → cur[i]? = some v := by
      intro i v hv
      rw [List.getElem?_take] at hv
      split at hv
      · simpa using hv
      · cases hv
    exact ⟨cv _ _ q1, cv _ _ q2, cv _ _ q3⟩
theorem Prow.lt {w : World} {g c : Nat} {T : TypeId} {l : List Pe} (h : Prow w g c T l) : g < w.heap.size := by
  obtain ⟨cur, k1, _⟩ := h.ex
  exact (Array.getElem?_eq_some_iff.1 k1).1
theorem Prow.of_eq {w w' : World} {g c : Nat} {T : TypeId} {l : List Pe} (h : Prow w g c T l) (hb : w'.heap[g]? = w.heap[g]?) : Prow w' g c T l := by
  obtain ⟨cur, k1, k2⟩ := h.ex
  exact ⟨⟨cur, hb.trans k1, k2⟩, h.cap, h.max⟩
theorem Prow.ft {w w' : World} {B g c : Nat} {Ts : List TypeId} {T : TypeId} {l : List Pe} (h : Prow w g c T l) (hc : Ft B Ts w w') (hT : T ∉ Ts) : Prow w' g c T l := by
  obtain ⟨cur, k1, k2⟩ := h.ex
  exact ⟨⟨cur, hc.keep k1 hT, k2⟩, h.cap, h.max⟩
theorem Prow.step {w w' : World} {g c : Nat} {T : TypeId} {l : List Pe} (h : Prow w g c T l) (hb : Below w.heap.size w w') : Prow w' g c T l := h.of_eq (hb.block g h.lt)
theorem Prow.cell {w : World} {g c : Nat} {T : TypeId} {l : List Pe} (h : Prow w g c T l) {k : Nat} (hk : k < l.length) :
    w.cell? ⟨g, k * 3, none⟩ = some (.int .u8 ((pe l k).a : Int)) ∧ w.cell? ⟨g, k * 3 + 1, none⟩ = some (.bool (pe l k).d) ∧ w.cell? ⟨g, k * 3 + 2, none⟩ = some (.int .i64 (pe l k).t) := by
  obtain ⟨cur, k1, _, k3⟩ := h.ex
  obtain ⟨q1, q2, q3⟩ := k3 k hk
  refine ⟨?_, ?_, ?_⟩ <;> simp [World.cell?, k1, q1, q2, q3]
theorem Prow.fz {w : World} {g c : Nat} {T : TypeId} {l : List Pe} (h : Prow w g c T l) (i : Nat) : w.frozen? ⟨g, i, none⟩ = false := by
  obtain ⟨cur, k1, _⟩ := h.ex
  simp [World.frozen?, k1]
theorem Pcell.other {cur : Array Value} {k i : Nat} {e : Pe} {v : Value} (h : Pcell cur k e) (hi : i < k * 3 ∨ k * 3 + 3 ≤ i) : Pcell (cur.setIfInBounds i v) k e := by
  obtain ⟨q1, q2, q3⟩ := h
  refine ⟨?_, ?_, ?_⟩
  · rw [Array.getElem?_setIfInBounds, if_neg (by omega)]; exact q1
  · rw [Array.getElem?_setIfInBounds, if_neg (by omega)]; exact q2
  · rw [Array.getElem?_setIfInBounds, if_neg (by omega)]; exact q3
theorem Pcell.setD {cur : Array Value} {k : Nat} {e : Pe} (h : Pcell cur k e) (d : Bool) : Pcell (cur.setIfInBounds (k * 3 + 1) (.bool d)) k { e with d := d } := by
  obtain ⟨q1, q2, q3⟩ := h
  have hs := (Array.getElem?_eq_some_iff.1 q2).1
  refine ⟨?_, ?_, ?_⟩
  · rw [Array.getElem?_setIfInBounds, if_neg (by omega)]; exact q1
  · rw [Array.getElem?_setIfInBounds, if_pos rfl, if_pos hs]
  · rw [Array.getElem?_setIfInBounds, if_neg (by omega)]; exact q3
theorem Pcell.setT {cur : Array Value} {k : Nat} {e : Pe} (h : Pcell cur k e) (t : Int) : Pcell (cur.setIfInBounds (k * 3 + 2) (.int .i64 t)) k { e with t := t } := by
  obtain ⟨q1, q2, q3⟩ := h
  have hs := (Array.getElem?_eq_some_iff.1 q3).1
  refine ⟨?_, ?_, ?_⟩
  · rw [Array.getElem?_setIfInBounds, if_neg (by omega)]; exact q1
  · rw [Array.getElem?_setIfInBounds, if_neg (by omega)]; exact q2
  · rw [Array.getElem?_setIfInBounds, if_pos rfl, if_pos hs]
theorem put_row {D i : Nat} {T : TypeId} {w : World} {cs : Array Value} {v : Value} (h : w.heap[D]? = some (.cells cs T (0, 0))) : (w.setCell ⟨D, i, none⟩ v).heap[D]? = some (.cells (cs.setIfInBounds i v) T (0, 0)) ∧ Ch [D] w (w.setCell ⟨D, i, none⟩ v) := by
  exact ⟨heap_setCell_same w D i cs T v h, (Ch.refl [D] w).setCell (p := ⟨D, i, none⟩) (fun _ => by simp) _⟩
theorem Prow.put {w : World} {g c i k : Nat} {T : TypeId} {l : List Pe} {e : Pe} {v : Value} (h : Prow w g c T l) (hk : k < l.length) (hi : k * 3 ≤ i) (hi' : i < k * 3 + 3)
    (he : ∀ cur, Pcell cur k (pe l k) → Pcell (cur.setIfInBounds i v) k e) : Prow (w.setCell ⟨g, i, none⟩ v) g c T (l.set k e) ∧ Ch [g] w (w.setCell ⟨g, i, none⟩ v) := by
  obtain ⟨cur, k1, k2, k3⟩ := h.ex
  obtain ⟨h1, h2⟩ := put_row (i := i) (v := v) k1
  refine ⟨⟨⟨_, h1, by simp [k2], fun j hj => ?_⟩, by simpa using h.cap, h.max⟩, h2⟩
  rw [List.length_set] at hj
  rw [pe_set hk]
  split
  · rename_i hkj; subst hkj; exact he _ (k3 k hk)
  · exact (k3 j hj).other (by omega)
theorem Prow.setD {w : World} {g c k : Nat} {T : TypeId} {l : List Pe} (h : Prow w g c T l) (hk : k < l.length) (d : Bool) :
    Prow (w.setCell ⟨g, k * 3 + 1, none⟩ (.bool d)) g c T (l.set k { pe l k with d := d }) ∧ Ch [g] w (w.setCell ⟨g, k * 3 + 1, none⟩ (.bool d)) := h.put hk (by omega) (by omega) (fun _ hc => hc.setD d)
theorem Prow.setT {w : World} {g c k : Nat} {T : TypeId} {l : List Pe} (h : Prow w g c T l) (hk : k < l.length) (t : Int) :
    Prow (w.setCell ⟨g, k * 3 + 2, none⟩ (.int .i64 t)) g c T (l.set k { pe l k with t := t }) ∧ Ch [g] w (w.setCell ⟨g, k * 3 + 2, none⟩ (.int .i64 t)) := h.put hk (by omega) (by omega) (fun _ hc => hc.setT t)

def idxP : Option Nat → Int
  | none => -1
  | some i => (i : Int)
theorem findP_first {l : List Pe} {a i : Nat} (hi : i < l.length) (ha : (pe l i).a = a) (hb : ∀ k, k < i → (pe l k).a ≠ a) : findP l a = some i := by
  unfold findP
  rw [List.findIdx?_eq_some_iff_getElem]
  refine ⟨hi, by rw [← pe_eq hi]; simp [ha], fun j hj => ?_⟩
  rw [← pe_eq (by omega)]
  simpa using hb j hj
theorem findP_all {l : List Pe} {a : Nat} (hb : ∀ k, k < l.length → (pe l k).a ≠ a) : findP l a = none := by
  cases hf : findP l a with
  | none => rfl
  | some i => obtain ⟨h1, h2⟩ := findP_some hf; exact absurd h2 (hb i h1)

theorem ft_grown {w w' : World} {B n size : Nat} {e : TypeId} {v : Value} {xs : List Value} (h : w.ownsRow B e size v n xs) (hg : w.grownBy w' v.ownBlock) : Ft B [e] w w' :=
  ⟨hg.os, hg.tape, hg.output, hg.size, fun k hk hb => hg.block k hk (fun heq => by
    rcases h.2 with ⟨rfl, _⟩ | ⟨g, cap, cur, rfl, h1, h2, _⟩
    · simp [Value.ownBlock] at heq
    · simp [Value.ownBlock] at heq
      subst heq
      rcases hb with hb | hb
      · omega
      · exact hb ⟨cur, e, (0, 0), h2, by simp⟩)⟩
end Go.Proofs.Ytkghbdikbbeoaaa
