/-
  wire.Wire in memory; New, Len and Put, as they landed: what they answer.
-/
import Derived.Test.YthpalepkilmpiaaWireB
namespace Go.Proofs.Ythpalepkilmpiaa
set_option linter.unusedVariables false
set_option linter.unusedSimpArgs false
open Go.RowKit

/-- A row on its way, and the value that it is held by. -/
structure Ro where
  v : Value
  r : Rw
def rcs (rs : List Ro) : List Value := rs.flatMap fun r => [r.v, .int .i64 (r.r.h : Int)]
theorem rcs_length (rs : List Ro) : (rcs rs).length = rs.length * 2 := by
  induction rs with
  | nil => rfl
  | cons r rs ih =>
    rw [rcs, List.flatMap_cons, List.length_append]
    rw [rcs] at ih
    rw [ih]
    simp
    omega
theorem rcs_append (a b : List Ro) : rcs (a ++ b) = rcs a ++ rcs b := by simp [rcs]
theorem rcs_drop (rs : List Ro) : ∀ k, rcs (rs.drop k) = (rcs rs).drop (k * 2) := by
  induction rs with
  | nil => intro k; simp [rcs]
  | cons r rs ih =>
    intro k
    cases k with
    | zero => simp
    | succ k =>
      rw [List.drop_succ_cons, ih k, show (k + 1) * 2 = k * 2 + 2 by omega]
      rfl
theorem rcs_get (rs : List Ro) : ∀ (k : Nat) (r : Ro), rs[k]? = some r → (rcs rs)[k * 2]? = some r.v ∧ (rcs rs)[k * 2 + 1]? = some (.int .i64 (r.r.h : Int)) := by
  induction rs with
  | nil => intro k r h; simp at h
  | cons a rs ih =>
    intro k r h
    cases k with
    | zero =>
      simp at h
      subst h
      exact ⟨rfl, rfl⟩
    | succ k =>
      rw [List.getElem?_cons_succ] at h
      obtain ⟨h1, h2⟩ := ih k r h
      rw [show (k + 1) * 2 = k * 2 + 2 by omega, show k * 2 + 2 + 1 = k * 2 + 1 + 2 by omega]
      exact ⟨h1, h2⟩

/-- A wire at D: room, and rows. -/
structure Wi (w : World) (B D : Nat) (room : Int) (rs : List Ro) : Prop where
  le : B ≤ D
  que : ∃ A c, w.heap[D]? = some (.cells #[.int .i64 room, .slice A rs.length c] 57 (0, 0)) ∧ Que w B 61 2 A rs.length c (rcs rs)
  row : ∀ r ∈ rs, w.ownsRow B 5 1 r.v r.r.l.length (bcs r.r.l)
  most : ∀ r ∈ rs, r.r.h ≤ 16
  room_ : (rs.length : Int) ≤ room ∧ room ≤ 9223372036854775807
theorem Wi.ft {w w' : World} {B B' D : Nat} {T : List TypeId} {room : Int} {rs : List Ro} (h : Wi w B D room rs) (hc : Ft B' T w w') (h1 : 57 ∉ T) (h2 : 61 ∉ T) (h3 : 5 ∉ T) : Wi w' B D room rs := by
  obtain ⟨A, c, h4, h5⟩ := h.que
  exact ⟨h.le, ⟨A, c, hc.keep h4 h1, h5.ft hc h2⟩, fun r hr => own_ft (h.row r hr) hc h3, h.most, h.room_⟩
theorem Wi.step {w w' : World} {B D : Nat} {room : Int} {rs : List Ro} (h : Wi w B D room rs) (hb : Below w.heap.size w w') : Wi w' B D room rs := h.ft (B' := 0) (T := []) (Ft.of_below hb) (by simp) (by simp) (by simp)
theorem Wi.ch {F : List Nat} {w w' : World} {B D : Nat} {room : Int} {rs : List Ro} (h : Wi w B D room rs) (hc : Ch F w w') (hF : ∀ x ∈ F, x < B) : Wi w' B D room rs := by
  obtain ⟨A, c, h4, h5⟩ := h.que
  have hl := h.le
  exact ⟨h.le, ⟨A, c, (hc.block D (Array.getElem?_eq_some_iff.1 h4).1 (fun hm => by have := hF D hm; omega)).trans h4, h5.ch hc hF⟩, fun r hr => ownB_ch (h.row r hr) hc (fun g hg hm => by have := ((h.row r hr).lt g hg).1; have := hF g hm; omega), h.most, h.room_⟩
theorem Wi.lt {w : World} {B D : Nat} {room : Int} {rs : List Ro} (h : Wi w B D room rs) : D < w.heap.size := by
  obtain ⟨A, c, h4, _⟩ := h.que
  exact (Array.getElem?_eq_some_iff.1 h4).1
/-- Its cells. -/
theorem Wi.cells {w : World} {B D : Nat} {room : Int} {rs : List Ro} (h : Wi w B D room rs) : ∃ A c, w.cell? ⟨D, 0, none⟩ = some (.int .i64 room) ∧ w.cell? ⟨D, 1, none⟩ = some (.slice A rs.length c) ∧ w.frozen? ⟨D, 1, none⟩ = false ∧ Que w B 61 2 A rs.length c (rcs rs) := by
  obtain ⟨A, c, h4, h5⟩ := h.que
  exact ⟨A, c, by simp [World.cell?, h4], by simp [World.cell?, h4], by simp [World.frozen?, h4], h5⟩
/-- Its rows are others, in the world behind. -/
theorem Wi.turn {w x : World} {B D : Nat} {room : Int} {rs rs' : List Ro} {A' : Option Addr} {c' : Nat} (h : Wi w B D room rs) (hc : Ft B [61] w x) (hq : Que x B 61 2 A' rs'.length c' (rcs rs')) (hr : ∀ r ∈ rs', x.ownsRow B 5 1 r.v r.r.l.length (bcs r.r.l)) (hm : ∀ r ∈ rs', r.r.h ≤ 16) (hl : (rs'.length : Int) ≤ room) :
    Wi (x.setCell ⟨D, 1, none⟩ (.slice A' rs'.length c')) B D room rs' ∧ Ft B [57, 61] w (x.setCell ⟨D, 1, none⟩ (.slice A' rs'.length c')) := by
  obtain ⟨A, c, h4, _⟩ := h.que
  have h6 := hc.keep h4 (by decide)
  have hft : Ft B [57] x (x.setCell ⟨D, 1, none⟩ (.slice A' rs'.length c')) := Ft.of_ch ((Ch.refl [D] x).setCell (by simp) _) (fun y hy _ => by simp at hy; subst hy; exact ⟨h.le, _, _, _, h6, by simp⟩)
  refine ⟨⟨h.le, ⟨A', c', ?_, hq.ft hft (by decide)⟩, fun r hr' => own_ft (hr r hr') hft (by decide), hm, ⟨hl, h.room_.2⟩⟩, (hc.mono (Nat.le_refl _) (by simp)).trans (hft.mono (Nat.le_refl _) (by simp))⟩
  rw [heap_setCell_same _ _ _ _ _ _ h6]
  rfl

/-- What New answers. -/
def NewPost (w : World) (room : Int) (e : Ending) (w' : World) : Prop := e = .returned (.pointer (some ⟨w.heap.size, 0, none⟩)) ∧ Wi w' w.heap.size w.heap.size room [] ∧ Below w.heap.size w w' ∧ w'.heap.size = w.heap.size + 1
theorem new_on {w : World} {room : Int} (hr : room ≤ 9223372036854775807) : Calls Try.prog 10 #[.int .i64 room] w (NewPost w (max room 1)) := by
  obtain ⟨p, hp⟩ : ∃ p : Int, (if room < 1 then 1 else room) = p := ⟨_, rfl⟩
  have HP : Hid (p = max room 1) := by
    show _ = _
    split at hp <;> omega
  rw [← HP.out]
  have hp1 : 1 ≤ p ∧ p ≤ 9223372036854775807 := by split at hp <;> omega
  have HP1 := Lib.hid hp1
  clear hp1
  go_enter Try.func10, Try.ntmps10
  go_wp2
  go_ret
  have := HP1.out
  exact ⟨rfl, ⟨Nat.le_refl _, ⟨none, 0, heap_alloc_new w _, Que.nil _ _ _ _⟩, by simp, by simp, ⟨by simp; omega, this.2⟩⟩, new_below _ _, by simp⟩

theorem len_on {w : World} {B D : Nat} {room : Int} {rs : List Ro} (h : Wi w B D room rs) : Calls Try.prog 21 #[.pointer (some ⟨D, 0, none⟩)] w fun e w' => e = .returned (.int .i64 (rs.length : Int)) ∧ w' = w := by
  obtain ⟨A, c, c0, c1, f1, hq⟩ := h.cells
  clear h hq
  generalize rs.length = n at *
  go_enter Try.func21, Try.ntmps21
  go_wp2
  go_ret
  exact ⟨rfl, rfl⟩

end Go.Proofs.Ythpalepkilmpiaa
