/-
  Words for memory that layer 6 wants: a change that keeps to blocks of some types; a slice of one's own that begins anywhere in its row; append and clear on it; slices of bytes in rows of their own. Of the program its types alone.
-/
import Derived.Test.YtdcnmbglbopgdaaFMem
import Derived.ArgAppend
namespace Go.Proofs.Ytdcnmbglbopgdaa
set_option linter.unusedVariables false
set_option linter.unusedSimpArgs false
open Go.RowKit

theorem new_below (w : World) (o : Obj) : Below w.heap.size w (w.alloc o) := ((Ch.refl [] w).alloc o).below (by simp)
theorem drew_below (w : World) : Below w.heap.size w w.drew := ((Ch.refl [] w).drew).below (by simp)

/-- A block of one of these types. -/
def BlockIn (w : World) (k : Nat) (T : List TypeId) : Prop := ∃ cs e fz, w.heap[k]? = some (.cells cs e fz) ∧ e ∈ T
/-- Only blocks from B on and of the types T, and new ones, have turned. -/
structure Ft (B : Nat) (T : List TypeId) (w w' : World) : Prop where
  os : w'.os = w.os
  tape : w'.tape = w.tape
  output : w'.output = w.output
  size : w.heap.size ≤ w'.heap.size
  block : ∀ k, k < w.heap.size → (k < B ∨ ¬ BlockIn w k T) → w'.heap[k]? = w.heap[k]?
theorem Ft.refl (B : Nat) (T : List TypeId) (w : World) : Ft B T w w := ⟨rfl, rfl, rfl, Nat.le_refl _, fun _ _ _ => rfl⟩
theorem Ft.trans {B : Nat} {T : List TypeId} {a b c : World} (h : Ft B T a b) (k : Ft B T b c) : Ft B T a c := by
  refine ⟨k.os.trans h.os, k.tape.trans h.tape, k.output.trans h.output, Nat.le_trans h.size k.size, fun i hi hb => ?_⟩
  have h1 := h.block i hi hb
  refine (k.block i (Nat.lt_of_lt_of_le hi h.size) (hb.imp id fun hn hm => hn ?_)).trans h1
  obtain ⟨cs, e, fz, h2, h3⟩ := hm
  exact ⟨cs, e, fz, h1 ▸ h2, h3⟩
theorem Ft.of_ch {B : Nat} {T : List TypeId} {F : List Nat} {w w' : World} (h : Ch F w w') (hF : ∀ x ∈ F, x < w.heap.size → B ≤ x ∧ BlockIn w x T) : Ft B T w w' :=
  ⟨h.os, h.tape, h.output, h.size, fun k hk hb => h.block k hk fun hm => by
    obtain ⟨h1, h2⟩ := hF k hm hk
    rcases hb with hb | hb
    · omega
    · exact hb h2⟩
theorem Ft.of_below {B : Nat} {T : List TypeId} {w w' : World} (h : Below w.heap.size w w') : Ft B T w w' := Ft.of_ch (Ch.of_below h) (by simp)
theorem Ft.below {B : Nat} {T : List TypeId} {w w' : World} (h : Ft B T w w') (hB : B ≤ w.heap.size) : Below B w w' :=
  ⟨h.os, h.tape, h.output, h.size, fun k hk => h.block k (by omega) (.inl hk)⟩
theorem Ft.mono {B B' : Nat} {T T' : List TypeId} {w w' : World} (h : Ft B T w w') (hB : B' ≤ B) (hT : ∀ t ∈ T, t ∈ T') : Ft B' T' w w' :=
  ⟨h.os, h.tape, h.output, h.size, fun k hk hb => h.block k hk (by
    rcases hb with hb | hb
    · exact .inl (by omega)
    · exact .inr fun ⟨cs, e, fz, h1, h2⟩ => hb ⟨cs, e, fz, h1, hT e h2⟩)⟩
theorem Ft.step {B : Nat} {T : List TypeId} {a b c : World} (h : Ft B T a b) (k : Below b.heap.size b c) : Ft B T a c := h.trans (Ft.of_below k)
theorem Ft.keep {B k : Nat} {T : List TypeId} {w w' : World} {cs : Array Value} {e : TypeId} {fz : Nat × Nat} (h : Ft B T w w') (hk : w.heap[k]? = some (.cells cs e fz)) (he : e ∉ T) : w'.heap[k]? = some (.cells cs e fz) :=
  (h.block k (Array.getElem?_eq_some_iff.1 hk).1 (.inr fun ⟨cs', e', fz', h1, h2⟩ => by
    rw [hk] at h1
    injection h1 with h1
    injection h1 with _ h1
    subst h1
    exact he h2)).trans hk
theorem own_ft {B B0 n size : Nat} {T : List TypeId} {w w' : World} {v : Value} {xs : List Value} {e : TypeId} (h : w.ownsRow B0 e size v n xs) (hc : Ft B T w w') (he : e ∉ T) : w'.ownsRow B0 e size v n xs := by
  refine ⟨h.1, ?_⟩
  rcases h.2 with hn | ⟨g, cap, cur, rfl, hb, hh, r⟩
  · exact .inl hn
  · exact .inr ⟨g, cap, cur, rfl, hb, hc.keep hh he, r⟩
theorem ownB_form {w : World} {B n size : Nat} {e : TypeId} {v : Value} {xs : List Value} (h : w.ownsRow B e size v n xs) : ∃ A c, v = .slice A n c := by
  rcases h.2 with ⟨rfl, rfl⟩ | ⟨g, cap, cur, rfl, _⟩
  · exact ⟨none, 0, rfl⟩
  · exact ⟨_, cap, rfl⟩
theorem own_zero {w : World} {B n size : Nat} {e : TypeId} {v : Value} {xs : List Value} (h : w.ownsRow B e size v n xs) : w.ownsRow 0 e size v n xs :=
  ⟨h.1, h.2.imp id fun ⟨g, cap, cur, h1, _, h3⟩ => ⟨g, cap, cur, h1, Nat.zero_le _, h3⟩⟩
theorem own_mono {w : World} {B B' n size : Nat} {e : TypeId} {v : Value} {xs : List Value} (h : w.ownsRow B e size v n xs) (hB : B' ≤ B) : w.ownsRow B' e size v n xs :=
  ⟨h.1, h.2.imp id fun ⟨g, cap, cur, h1, h2, h3⟩ => ⟨g, cap, cur, h1, Nat.le_trans hB h2, h3⟩⟩
/-- Cells set one by one: what the row is then. -/
theorem setCells_heap {g : Nat} {e : TypeId} : ∀ (vs : List Value) (o : Nat) (w : World) (cur : Array Value), w.heap[g]? = some (.cells cur e (0, 0)) →
    Ch [g] w (w.setCells g o vs) ∧ ∃ cur', (w.setCells g o vs).heap[g]? = some (.cells cur' e (0, 0)) ∧ cur'.size = cur.size ∧ (∀ k, k < o ∨ o + vs.length ≤ k → cur'[k]? = cur[k]?) ∧ ∀ j, j < vs.length → o + vs.length ≤ cur.size → cur'[o + j]? = vs[j]?
  | [], o, w, cur, h => ⟨Ch.refl _ _, cur, h, rfl, fun _ _ => rfl, fun j hj => by simp at hj⟩
  | v :: r, o, w, cur, h => by
    have h1 : (w.setCell ⟨g, o, none⟩ v).heap[g]? = some (.cells (cur.setIfInBounds o v) e (0, 0)) := heap_setCell_same _ _ _ _ _ _ h
    obtain ⟨k1, cur', k2, k3, k4, k5⟩ := setCells_heap r (o + 1) (w.setCell ⟨g, o, none⟩ v) _ h1
    rw [Array.size_setIfInBounds] at k3
    refine ⟨((Ch.refl [g] w).setCell (by simp) v).trans k1, cur', k2, k3, fun k hk => ?_, fun j hj hl => ?_⟩
    · rw [List.length_cons] at hk
      rw [k4 k (by omega), Array.getElem?_setIfInBounds_ne (by omega)]
    · rw [List.length_cons] at hj hl
      cases j with
      | zero =>
        rw [Nat.add_zero, k4 o (by omega), Array.getElem?_setIfInBounds_self_of_lt (by omega)]
        rfl
      | succ j =>
        have := k5 j (by omega) (by rw [Array.size_setIfInBounds]; omega)
        rw [show o + (j + 1) = o + 1 + j by omega, this]
        rfl

/-- A slice of one's own, from B on, that begins anywhere in its row. -/
def Que (w : World) (B : Nat) (e : TypeId) (size : Nat) (A : Option Addr) (n c : Nat) (xs : List Value) : Prop :=
  xs.length = n * size ∧ ((A = none ∧ n = 0 ∧ c = 0) ∨ ∃ (g o : Nat) (cur : Array Value), A = some ⟨g, o, none⟩ ∧ B ≤ g ∧ w.heap[g]? = some (.cells cur e (0, 0)) ∧ n ≤ c ∧ c ≤ maxLen ∧ o + c * size ≤ cur.size ∧ ∀ j u, xs[j]? = some u → cur[o + j]? = some u)
theorem Que.nil (w : World) (B : Nat) (e : TypeId) (size : Nat) : Que w B e size none 0 0 [] := ⟨by simp, .inl ⟨rfl, rfl, rfl⟩⟩
theorem Que.ft {w w' : World} {B B0 n c size : Nat} {T : List TypeId} {A : Option Addr} {e : TypeId} {xs : List Value} (h : Que w B0 e size A n c xs) (hc : Ft B T w w') (he : e ∉ T) : Que w' B0 e size A n c xs := by
  refine ⟨h.1, h.2.imp id fun ⟨g, o, cur, h1, h2, h3, h4⟩ => ⟨g, o, cur, h1, h2, hc.keep h3 he, h4⟩⟩
theorem Que.ch {w w' : World} {F : List Nat} {B n c size : Nat} {A : Option Addr} {e : TypeId} {xs : List Value} (h : Que w B e size A n c xs) (hc : Ch F w w') (hF : ∀ x ∈ F, x < B) : Que w' B e size A n c xs := by
  refine ⟨h.1, h.2.imp id fun ⟨g, o, cur, h1, h2, h3, h4⟩ => ⟨g, o, cur, h1, h2, (hc.block g (Array.getElem?_eq_some_iff.1 h3).1 (fun hm => by have := hF g hm; omega)).trans h3, h4⟩⟩
theorem Que.cap {w : World} {B n c size : Nat} {A : Option Addr} {e : TypeId} {xs : List Value} (h : Que w B e size A n c xs) : n ≤ c ∧ c ≤ maxLen := by
  rcases h.2 with ⟨_, h1, h2⟩ | ⟨g, o, cur, _, _, _, h1, h2, _⟩
  · subst h1 h2; exact ⟨Nat.le_refl _, Nat.zero_le _⟩
  · exact ⟨h1, h2⟩
/-- Where it lies, if there is any of it: read, not frozen, and written. -/
theorem Que.at {w : World} {B n c size : Nat} {A : Option Addr} {e : TypeId} {xs : List Value} (h : Que w B e size A n c xs) (hn : 0 < n) : ∃ g o, A = some ⟨g, o, none⟩ ∧ B ≤ g ∧ g < w.heap.size ∧ BlockIn w g [e] ∧ (∀ j u, xs[j]? = some u → w.cell? ⟨g, o + j, none⟩ = some u) ∧ (∀ j, w.frozen? ⟨g, j, none⟩ = false) ∧
    ∀ j v, Que (w.setCell ⟨g, o + j, none⟩ v) B e size A n c (xs.set j v) := by
  rcases h.2 with ⟨_, h1, _⟩ | ⟨g, o, cur, rfl, h2, h3, h4, h5, h6, h7⟩
  · omega
  · refine ⟨g, o, rfl, h2, (Array.getElem?_eq_some_iff.1 h3).1, ⟨cur, e, _, h3, by simp⟩, fun j u hu => ?_, fun j => ?_, fun j v => ⟨by rw [List.length_set]; exact h.1, .inr ⟨g, o, _, rfl, h2, heap_setCell_same _ _ _ _ _ _ h3, h4, h5, by rw [Array.size_setIfInBounds]; exact h6, fun i u hu => ?_⟩⟩⟩
    · simp [World.cell?, h3, h7 j u hu]
    · simp [World.frozen?, h3]
    · by_cases hij : i = j
      · subst hij
        have hil : i < xs.length := by
          rcases Nat.lt_or_ge i xs.length with h | h
          · exact h
          · rw [List.getElem?_eq_none (by rw [List.length_set]; exact h)] at hu; cases hu
        rw [List.getElem?_set_self hil] at hu
        have h8 := h.1
        have h9 : n * size ≤ c * size := Nat.mul_le_mul_right _ h4
        rw [Array.getElem?_setIfInBounds_self_of_lt (by omega)]
        exact hu
      · rw [List.getElem?_set_ne (fun e => hij e.symm)] at hu
        rw [Array.getElem?_setIfInBounds_ne (by omega)]
        exact h7 i u hu
theorem Que.drop {w : World} {B n c size : Nat} {A : Option Addr} {e : TypeId} {xs : List Value} (h : Que w B e size A n c xs) {g o : Nat} (hA : A = some ⟨g, o, none⟩) (k : Nat) (hk : k ≤ n) :
    Que w B e size (if c = k then A else some ⟨g, o + k * size, none⟩) (n - k) (c - k) (xs.drop (k * size)) := by
  rcases h.2 with ⟨h1, _⟩ | ⟨g', o', cur, h1, h2, h3, h4, h5, h6, h7⟩
  · rw [hA] at h1; cases h1
  · rw [hA] at h1
    injection h1 with h1
    injection h1 with hg ho
    subst hg ho
    have hx := h.1
    have hkn : k * size ≤ n * size := Nat.mul_le_mul_right _ hk
    have hcs : c * size = (c - k) * size + k * size := by rw [← Nat.add_mul]; congr 1; omega
    refine ⟨by rw [List.length_drop, hx, Nat.sub_mul], .inr ?_⟩
    split
    · rename_i hck
      refine ⟨g, o, cur, hA, h2, h3, by omega, by omega, ?_, fun j u hu => ?_⟩
      · subst hck; simp; omega
      · have : (xs.drop (k * size)) = [] := List.drop_eq_nil_of_le (by rw [hx, show n = k by omega]; exact Nat.le_refl _)
        rw [this] at hu
        cases hu
    · refine ⟨g, o + k * size, cur, rfl, h2, h3, by omega, by omega, by omega, fun j u hu => ?_⟩
      rw [List.getElem?_drop] at hu
      rw [Nat.add_assoc]
      exact h7 _ u hu

/-- Slices of bytes, each in a row of its own from B on. -/
structure Rs (w : World) (B : Nat) (vs : List Value) (ps : List (List UInt8)) : Prop where
  len : vs.length = ps.length
  own : ∀ (j : Nat) (v : Value) (l : List UInt8), vs[j]? = some v → ps[j]? = some l → w.ownsRow B 5 1 v l.length (bcs l)
theorem Rs.nil (w : World) (B : Nat) : Rs w B [] [] := ⟨rfl, fun j v l h => by simp at h⟩
theorem Rs.ft {w w' : World} {B B' : Nat} {T : List TypeId} {vs : List Value} {ps : List (List UInt8)} (h : Rs w B vs ps) (hc : Ft B' T w w') (he : 5 ∉ T) : Rs w' B vs ps := ⟨h.len, fun j v l h1 h2 => own_ft (h.own j v l h1 h2) hc he⟩
theorem Rs.mono {w : World} {B B' : Nat} {vs : List Value} {ps : List (List UInt8)} (h : Rs w B vs ps) (hB : B' ≤ B) : Rs w B' vs ps := ⟨h.len, fun j v l h1 h2 => own_mono (h.own j v l h1 h2) hB⟩
/-- A slice of them, in a row of its own. -/
structure Rp (w : World) (B : Nat) (V : Option Addr) (n c : Nat) (vs : List Value) (ps : List (List UInt8)) : Prop where
  outer : w.ownsRow B 34 1 (.slice V n c) n vs
  len : ps.length = n
  rows : Rs w B vs ps
theorem Rp.ft {w w' : World} {B B' n c : Nat} {V : Option Addr} {T : List TypeId} {vs : List Value} {ps : List (List UInt8)} (h : Rp w B V n c vs ps) (hc : Ft B' T w w') (he : 5 ∉ T) (he' : 34 ∉ T) : Rp w' B V n c vs ps := ⟨own_ft h.outer hc he', h.len, h.rows.ft hc he⟩
theorem Rp.step {w w' : World} {B n c : Nat} {V : Option Addr} {vs : List Value} {ps : List (List UInt8)} (h : Rp w B V n c vs ps) (hb : Below w.heap.size w w') : Rp w' B V n c vs ps := h.ft (B' := 0) (T := []) (Ft.of_below hb) (by simp) (by simp)
theorem Rp.nil (w : World) (B : Nat) : Rp w B none 0 0 [] [] := ⟨World.ownsRow_nil _ _ _ _, rfl, Rs.nil _ _⟩
theorem Rp.mono {w : World} {B B' n c : Nat} {V : Option Addr} {vs : List Value} {ps : List (List UInt8)} (h : Rp w B V n c vs ps) (hB : B' ≤ B) : Rp w B' V n c vs ps := ⟨own_mono h.outer hB, h.len, h.rows.mono hB⟩
/-- One of them. -/
theorem Rp.at {w : World} {B n c : Nat} {V : Option Addr} {vs : List Value} {ps : List (List UInt8)} (h : Rp w B V n c vs ps) (k : Nat) (hk : k < n) : ∃ g A l c', V = some ⟨g, 0, none⟩ ∧ B ≤ g ∧ g < w.heap.size ∧ vs[k]? = some (.slice A l.length c') ∧ ps[k]? = some l ∧ w.cell? ⟨g, k, none⟩ = some (.slice A l.length c') ∧ w.frozen? ⟨g, k, none⟩ = false ∧ w.ownsRow B 5 1 (.slice A l.length c') l.length (bcs l) := by
  have hl := h.len
  have hkp : k < ps.length := by omega
  have hkv : k < vs.length := by rw [h.rows.len]; exact hkp
  have ho := h.rows.own k vs[k] ps[k] (List.getElem?_eq_getElem hkv) (List.getElem?_eq_getElem hkp)
  obtain ⟨A, c', hform⟩ := ownB_form ho
  rcases h.outer.2 with ⟨_, h0⟩ | ⟨g, cap, cur, hV, hb, hh, h1, h2, h3, h4⟩
  · omega
  · injection hV with hV _ _
    refine ⟨g, A, ps[k], c', hV, hb, (Array.getElem?_eq_some_iff.1 hh).1, by rw [List.getElem?_eq_getElem hkv, hform], List.getElem?_eq_getElem hkp, ?_, by simp [World.frozen?, hh], by rw [← hform]; exact ho⟩
    have h5 : vs[k]? = some (.slice A ps[k].length c') := by rw [List.getElem?_eq_getElem hkv, hform]
    rw [← h4, List.getElem?_take] at h5
    split at h5
    · simp only [World.cell?, hh]
      simpa using h5
    · cases h5

end Go.Proofs.Ytdcnmbglbopgdaa
