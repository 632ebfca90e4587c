/-
  What the laws of layer 6 share: slices of bytes as they come in; rows that are not held; a wire's rows told and compared.
-/
import Derived.Test.YthpalepkilmpiaaWireS
namespace Go.Proofs.Ythpalepkilmpiaa
set_option linter.unusedVariables false
set_option linter.unusedSimpArgs false
open Go.RowKit

/-- Slices of bytes as they come in. -/
def InParts (w : World) (P : Option Addr) (ps : List (List UInt8)) : Prop :=
  ∀ k l, ps[k]? = some l → ∃ b o g A c, P = some ⟨b, o, none⟩ ∧ b < w.heap.size ∧ w.cell? ⟨b, o + k, none⟩ = some (.slice A l.length c) ∧ l.length ≤ c ∧ c ≤ 9223372036854775807 ∧ Holds w g A (bcs l)
theorem InParts.below {w w' : World} {P : Option Addr} {ps : List (List UInt8)} (h : InParts w P ps) (hb : Below w.heap.size w w') : InParts w' P ps := by
  intro k l hk
  obtain ⟨b, o, g, A, c, hP, hbw, hcell, h1, h2, hh⟩ := h k l hk
  exact ⟨b, o, g, A, c, hP, Nat.lt_of_lt_of_le hbw hb.size, (hb.cell (p := ⟨b, o + k, none⟩) hbw).trans hcell, h1, h2, hh.keep (Ch.of_below hb) (by simp)⟩

/-- The first k of them, two hundred bytes of each, not held. -/
def fq (ps : List (List UInt8)) (k : Nat) : List Rw := (ps.take k).map fun p => ⟨p.take 200, 0⟩
theorem fq_length {ps : List (List UInt8)} {k : Nat} (h : k ≤ ps.length) : (fq ps k).length = k := by
  rw [fq, List.length_map, List.length_take]
  omega
theorem fq_succ {ps : List (List UInt8)} {k : Nat} {p : List UInt8} (h : ps[k]? = some p) : fq ps (k + 1) = fq ps k ++ [⟨p.take 200, 0⟩] := by
  rw [fq, List.take_add_one, h, List.map_append]
  rfl
theorem fq_get {ps : List (List UInt8)} {k j : Nat} {p : List UInt8} (hj : j < k) (h : ps[j]? = some p) : ((fq ps k).map (·.l))[j]? = some (p.take 200) := by
  rw [List.getElem?_map, fq, List.getElem?_map, List.getElem?_take, if_pos hj, h]
  rfl
theorem freeN_all {qs : List Rw} (h : ∀ r ∈ qs, r.h = 0) : freeN qs = qs.length :=
  freeN_at (fun j r _ hr => h r (List.mem_of_getElem? hr)) (fun r hr => by rw [List.getElem?_eq_none (Nat.le_refl _)] at hr; cases hr) (Nat.le_refl _)
theorem takeM_all {qs : List Rw} (h : ∀ r ∈ qs, r.h = 0) : takeM qs = (qs.map (·.l), []) := by
  cases qs with
  | nil => rfl
  | cons r t => rw [takeM_free t (h r (by simp)), freeN_all h, List.take_length, List.drop_length]
theorem fq_free (ps : List (List UInt8)) (k : Nat) : ∀ r ∈ fq ps k, r.h = 0 := by
  intro r hr
  rw [fq, List.mem_map] at hr
  obtain ⟨p, _, rfl⟩ := hr
  rfl
/-- A Put without a fault. -/
theorem putM_pass (room : Int) (qs : List Rw) (l : List UInt8) : putM room qs ⟨0, 0, 0, []⟩ l = if room < ((qs.length + 1 : Nat) : Int) then (qs, 5) else (qs ++ [⟨l, 0⟩], 0) := rfl

theorem put_pass {w x : World} {D g n c : Nat} {room : Int} {qs : List Rw} {A : Option Addr} {l : List UInt8} (hw : Lw w D room qs x) (hql : qs.length ≤ 1000000) (h : Holds x g A (bcs l)) (hn : l.length = n) (hle : n ≤ 1000000) (hc : n ≤ c) (hcm : c ≤ 9223372036854775807) :
    Calls Try.prog 17 #[.pointer (some ⟨D, 0, none⟩), .slice A n c, .agg #[.int .i64 0, .int .i64 0, .int .u8 0, .slice none 0 0]] x fun e y => e = .returned (.int .i64 (putM room qs ⟨0, 0, 0, []⟩ l).2) ∧ Lw w D room (putM room qs ⟨0, 0, 0, []⟩ l).1 y ∧ Ft D [57, 61] x y :=
  put_lw (f := ⟨0, 0, 0, []⟩) (gB := 0) (AB := none) (bc := 0) hw hql h hn hle hc (by unfold maxLen; omega) (Holds.nil _ _ _) (Nat.le_refl _) (Nat.zero_le _)

theorem own_ex_holds {w : World} {B n c : Nat} {A : Option Addr} {l : List UInt8} (h : w.ownsRow B 5 1 (.slice A n c) n (bcs l)) (hn : l.length = n) : ∃ g, Holds w g A (bcs l) := by
  cases A with
  | none =>
    have h0 : n = 0 := by
      rcases h.2 with ⟨_, h0⟩ | ⟨g', _, _, hx, _⟩
      · exact h0
      · cases hx
    have hl : l = [] := List.eq_nil_of_length_eq_zero (by omega)
    subst hl
    exact ⟨0, Holds.nil _ _ _⟩
  | some ad => exact ⟨ad.block, own_holds (own_zero h) (by intro h hh; simp [Value.ownBlock] at hh; exact hh.symm)⟩

end Go.Proofs.Ythpalepkilmpiaa
