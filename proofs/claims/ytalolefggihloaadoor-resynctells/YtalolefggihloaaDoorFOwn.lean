/-
  Rows of a call's own: an append onto one, of what a slice holds; slices of bytes in rows of their own.
-/
import Derived.Test.YtalolefggihloaaDoorFCrcShown
import Derived.Laws.AppendOwnNone
namespace Go.Proofs.YtalolefggihloaaDoor
set_option linter.unusedVariables false
set_option linter.unusedSimpArgs false
open Go.RowKit

theorem info_bytes : (Tryd.prog.info? 32).map (fun i => (i.zero, i.size, i.bytes)) = some (some (.slice none 0 0), 1, 24) := by kernel_rfl

/-- Slices of bytes as they come in. -/
def InParts (w : World) (P : Option Addr) (ps : List (List UInt8)) : Prop :=
  ∀ k l, ps[k]? = some l → ∃ b o g A c, P = some ⟨b, o, none⟩ ∧ b < w.heap.size ∧ w.cell? ⟨b, o + k, none⟩ = some (.slice A l.length c) ∧ l.length ≤ c ∧ c ≤ 9223372036854775807 ∧ Holds w g A (bcs l)

theorem InParts.below {w w' : World} {P : Option Addr} {ps : List (List UInt8)} (h : InParts w P ps) (hb : Below w.heap.size w w') : InParts w' P ps := by
  intro k l hk
  obtain ⟨b, o, g, A, c, hP, hbw, hcell, h1, h2, hh⟩ := h k l hk
  exact ⟨b, o, g, A, c, hP, Nat.lt_of_lt_of_le hbw hb.size, (hb.cell (p := ⟨b, o + k, none⟩) hbw).trans hcell, h1, h2, hh.keep (Ch.of_below hb) (by simp)⟩

/-- Slices of bytes that a call has made, in rows of their own from block B on. -/
structure Rows_ (w : World) (B : Nat) (vs : List Value) (ps : List (List UInt8)) : Prop where
  len : vs.length = ps.length
  own : ∀ (j : Nat) (v : Value) (l : List UInt8), vs[j]? = some v → ps[j]? = some l → w.ownsRow 0 5 1 v l.length (bcs l) ∧ ∀ h, v.ownBlock = some h → B ≤ h

theorem own_far {w w' : World} {row : Option Nat} {v v' : Value} {n n' : Nat} {xs xs' : List Value} {e e' : TypeId} (hg : w.grownBy w' row) (hrow : row = v'.ownBlock) (h : w.ownsRow 0 e 1 v n xs) (h' : w.ownsRow 0 e' 1 v' n' xs') (hne : e ≠ e') : w'.ownsRow 0 e 1 v n xs := by
  refine h.kept hg ?_
  cases hv : v.ownBlock with
  | none => exact .inl rfl
  | some g =>
    right
    rw [hrow]
    intro he
    rcases h'.2 with ⟨rfl, _⟩ | ⟨g', cap', cur', rfl, _, hh', _⟩
    · simp [Value.ownBlock] at he
    · simp [Value.ownBlock] at he
      exact own_ne (W := g) (g := g) (by rw [he]; exact hh') h hv hne rfl

theorem Rows_.keep {w w' : World} {B : Nat} {vs : List Value} {ps : List (List UInt8)} (h : Rows_ w B vs ps) (hk : ∀ v n xs, w.ownsRow 0 5 1 v n xs → (∀ g, v.ownBlock = some g → B ≤ g) → w'.ownsRow 0 5 1 v n xs) : Rows_ w' B vs ps :=
  ⟨h.len, fun j v l hv hl => ⟨hk v _ _ (h.own j v l hv hl).1 (h.own j v l hv hl).2, (h.own j v l hv hl).2⟩⟩
theorem Rows_.snoc {w : World} {B : Nat} {vs : List Value} {ps : List (List UInt8)} (h : Rows_ w B vs ps) {v : Value} {l : List UInt8} (hv : w.ownsRow 0 5 1 v l.length (bcs l)) (hB : ∀ g, v.ownBlock = some g → B ≤ g) : Rows_ w B (vs ++ [v]) (ps ++ [l]) := by
  refine ⟨by simp [h.len], fun j u m hu hm => ?_⟩
  rcases Nat.lt_or_ge j vs.length with hj | hj
  · rw [List.getElem?_append_left hj] at hu
    rw [List.getElem?_append_left (by rw [← h.len]; exact hj)] at hm
    exact h.own j u m hu hm
  · rw [List.getElem?_append_right hj] at hu
    rw [List.getElem?_append_right (by rw [← h.len]; exact hj)] at hm
    rw [h.len] at hu
    cases hk : j - ps.length with
    | zero =>
      rw [hk] at hu hm
      simp at hu hm
      subst hu hm
      exact ⟨hv, hB⟩
    | succ k => rw [hk] at hu; simp at hu

/-- A slice of them. -/
structure OwnP (w : World) (B : Nat) (V : Option Addr) (c : Nat) (ps : List (List UInt8)) (vs : List Value) : Prop where
  outer : w.ownsRow 0 32 1 (.slice V ps.length c) ps.length vs
  from_ : ∀ h, (Value.slice V ps.length c).ownBlock = some h → B ≤ h
  rows : Rows_ w B vs ps

/-- What the call owns stays, as long as nothing from B on turns but one row of bytes that is not theirs, or one row of slices. -/
theorem OwnP.alloc {w : World} {B : Nat} {V : Option Addr} {c : Nat} {ps : List (List UInt8)} {vs : List Value} (h : OwnP w B V c ps vs) (o : Obj) : OwnP (w.alloc o) B V c ps vs :=
  ⟨h.outer.alloc o, h.from_, h.rows.keep fun _ _ _ hv _ => hv.alloc o⟩
theorem OwnP.drew {w : World} {B : Nat} {V : Option Addr} {c : Nat} {ps : List (List UInt8)} {vs : List Value} (h : OwnP w B V c ps vs) : OwnP w.drew B V c ps vs :=
  ⟨h.outer, h.from_, h.rows.keep fun _ _ _ hv _ => hv⟩
theorem OwnP.keep {F : List Nat} {w w' : World} {B : Nat} {V : Option Addr} {c : Nat} {ps : List (List UInt8)} {vs : List Value} (h : OwnP w B V c ps vs) (hc : Ch F w w') (hF : ∀ x ∈ F, x < B ∨ w.heap.size ≤ x) : OwnP w' B V c ps vs := by
  have key : ∀ (v : Value) (n : Nat) (xs : List Value) (e : TypeId), w.ownsRow 0 e 1 v n xs → (∀ g, v.ownBlock = some g → B ≤ g) → w'.ownsRow 0 e 1 v n xs := fun v n xs e hv hB =>
    own_ch hv hc (fun g hg hm => by have h1 := hF g hm; have h2 := hB g hg; have h3 := (hv.lt g hg).2; omega)
  exact ⟨key _ _ _ _ h.outer h.from_, h.from_, h.rows.keep fun v n xs hv hB => key v n xs _ hv hB⟩

theorem cat_flat (cs : List (List UInt8)) (p : List UInt8) : ByteArray.mk cs.flatten.toArray ++ ByteArray.mk p.toArray = ByteArray.mk (cs ++ [p]).flatten.toArray := by
  apply ByteArray.ext
  simp

/-- As parts of a call: what they are. -/
theorem OwnP.parts {w : World} {B : Nat} {V : Option Addr} {c : Nat} {ps : List (List UInt8)} {vs : List Value} (h : OwnP w B V c ps vs) : PartsAt w V ps := by
  intro k l hk
  have hkl : k < ps.length := by
    rcases Nat.lt_or_ge k ps.length with h | h
    · exact h
    · rw [List.getElem?_eq_none h] at hk; cases hk
  have hkv : k < vs.length := by rw [h.rows.len]; exact hkl
  obtain ⟨hv, hB⟩ := h.rows.own k vs[k] l (List.getElem?_eq_getElem hkv) hk
  obtain ⟨A, c', hform⟩ := own_form hv
  rcases h.outer.2 with ⟨_, h0⟩ | ⟨g, cap, cur, hV, _, hh, h1, h2, h3, h4⟩
  · omega
  · injection hV with hV _ _
    have hcell : w.cell? ⟨g, 0 + k, none⟩ = some (.slice A l.length c') := by
      have h5 : vs[k]? = some (.slice A l.length c') := by rw [List.getElem?_eq_getElem hkv, hform]
      rw [← h4, List.getElem?_take] at h5
      split at h5
      · simp only [World.cell?, hh]
        simpa using h5
      · cases h5
    rw [hform] at hv hB
    cases hA : A with
    | none =>
      subst hA
      have hl0 : l.length = 0 := by
        rcases hv.2 with ⟨_, h0⟩ | ⟨g', _, _, hx, _⟩
        · exact h0
        · cases hx
      have hl : l = [] := List.eq_nil_of_length_eq_zero hl0
      subst hl
      exact ⟨g, 0, g, none, c', hV, hcell, Holds.nil _ _ _⟩
    | some ad =>
      subst hA
      exact ⟨g, 0, ad.block, some ad, c', hV, hcell, own_holds hv (by intro h hh; simp [Value.ownBlock] at hh; exact hh.symm)⟩

end Go.Proofs.YtalolefggihloaaDoor
