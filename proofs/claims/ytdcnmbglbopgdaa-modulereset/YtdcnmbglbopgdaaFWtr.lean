/-
  octets.Writer: put, the methods of the Writer, Done: their contracts.
-/
import Derived.Test.YtdcnmbglbopgdaaFRdr
import Derived.Laws.AppendOwnNone
namespace Go.Proofs.Ytdcnmbglbopgdaa
set_option linter.unusedVariables false
set_option linter.unusedSimpArgs false
open Go.RowKit

/-- A writer, in block W; what it has is l; its bytes lie in block g (g = W: nowhere yet). -/
structure Wtr (w : World) (W g : Nat) (l : List UInt8) : Prop where
  cell : ∃ v, w.heap[W]? = some (.cells #[v] 123 (0, 0)) ∧ w.ownsRow 0 5 1 v l.length (bcs l) ∧ ((v.ownBlock = none ∧ g = W) ∨ v.ownBlock = some g)

theorem Wtr.lt {w : World} {W g : Nat} {l : List UInt8} (h : Wtr w W g l) : W < w.heap.size ∧ g < w.heap.size := by
  obtain ⟨v, h1, h2, h3⟩ := h.cell
  have hW := (Array.getElem?_eq_some_iff.1 h1).1
  rcases h3 with ⟨_, rfl⟩ | h3
  · exact ⟨hW, hW⟩
  · exact ⟨hW, (h2.lt g h3).2⟩

theorem Wtr.keep {F : List Nat} {w w' : World} {W g : Nat} {l : List UInt8} (h : Wtr w W g l) (hc : Ch F w w') (hW : W ∉ F) (hg : g ∉ F) : Wtr w' W g l := by
  have hlt := h.lt
  obtain ⟨v, h1, h2, h3⟩ := h.cell
  refine ⟨v, (hc.block W hlt.1 hW).trans h1, ⟨h2.1, ?_⟩, h3⟩
  rcases h2.2 with hn | ⟨g', cap, cur, rfl, hb, hh, r⟩
  · exact .inl hn
  · refine .inr ⟨g', cap, cur, rfl, hb, ?_, r⟩
    have hgg : g' = g := by
      rcases h3 with ⟨h3, _⟩ | h3 <;> simp [Value.ownBlock] at h3
      exact h3
    subst hgg
    exact (hc.block g' hlt.2 hg).trans hh

def PutPost (w : World) (W g : Nat) (l : List UInt8) (v : Value) (e : Ending) (w' : World) : Prop :=
  e = .returned v ∧ ∃ g', (g' = g ∨ w.heap.size ≤ g') ∧ Wtr w' W g' l ∧ Ch [W, g] w w'

theorem put_close {w w1 : World} {W g n m : Nat} {v v' : Value} {l new : List UInt8} (hW : w.heap[W]? = some (.cells #[v] 123 (0, 0))) (hown : w.ownsRow 0 5 1 v l.length (bcs l))
    (hg : (v.ownBlock = none ∧ g = W) ∨ v.ownBlock = some g) (hn : l.length = n) (hm : new.length = m) (hown' : w1.ownsRow 0 5 1 v' (n + m) (bcs l ++ bcs new)) (hgrow : w.grownBy w1 v.ownBlock)
    (hat : v'.ownBlock = v.ownBlock ∨ v'.ownBlock = some w.heap.size) : PutPost w W g (l ++ new) (.tuple #[]) (.returned (.tuple #[])) (w1.setCell ⟨W, 0, none⟩ v') := by
  subst hn hm
  have hWl := (Array.getElem?_eq_some_iff.1 hW).1
  have hne : some W ≠ v.ownBlock := by
    intro he
    exact own_ne hW hown he.symm (by decide) rfl
  have hW1 : w1.heap[W]? = some (.cells #[v] 123 (0, 0)) := (hgrow.block W hWl hne).trans hW
  have hW2 : (w1.setCell ⟨W, 0, none⟩ v').heap[W]? = some (.cells #[v'] 123 (0, 0)) := by simp [World.setCell, Array.getElem?_modify, hW1]
  have hown2 : (w1.setCell ⟨W, 0, none⟩ v').ownsRow 0 5 1 v' (l ++ new).length (bcs (l ++ new)) := by
    rw [List.length_append, bcs_append]
    refine ⟨hown'.1, ?_⟩
    rcases hown'.2 with hn | ⟨g', cap, cur, rfl, hb, hh, r⟩
    · exact .inl hn
    · refine .inr ⟨g', cap, cur, rfl, hb, ?_, r⟩
      rw [Below.heap_setCell _ _ _ _ (own_ne (g := g') hW1 hown' rfl (by decide))]
      exact hh
  have hch : Ch [W, g] w (w1.setCell ⟨W, 0, none⟩ v') := by
    refine ((Ch.refl [W, g] w).grown hgrow ?_).setCell (by simp) _
    intro k hk _
    rcases hg with ⟨h0, _⟩ | h0 <;> rw [h0] at hk <;> cases hk
    simp
  cases hb : v'.ownBlock with
  | none =>
    have hv : v.ownBlock = none := by
      rcases hat with h | h
      · rw [← h]; exact hb
      · rw [hb] at h; cases h
    have hgW : g = W := by
      rcases hg with ⟨_, h⟩ | h
      · exact h
      · rw [hv] at h; cases h
    exact ⟨rfl, W, .inl hgW.symm, ⟨v', hW2, hown2, .inl ⟨hb, rfl⟩⟩, hch⟩
  | some h =>
    refine ⟨rfl, h, ?_, ⟨v', hW2, hown2, .inr hb⟩, hch⟩
    rcases hat with h' | h'
    · rw [hb] at h'
      rcases hg with ⟨h0, _⟩ | h0
      · rw [h0] at h'; cases h'
      · rw [h0] at h'; cases h'; exact .inl rfl
    · rw [hb] at h'; cases h'; exact .inr (Nat.le_refl _)

set_option maxHeartbeats 400000 in
theorem put_any (W g s : Nat) (A : Option Addr) (m c : Nat) (l new : List UInt8) (w : World) (h : Wtr w W g l) (hs : Holds w s A (bcs new)) (hm : new.length = m) (hl : l.length + m ≤ 1099511627776) :
    Calls Try.prog 68 #[.pointer (some ⟨W, 0, none⟩), .slice A m c] w (PutPost w W g (l ++ new) (.tuple #[])) := by
  obtain ⟨i0, hi, hz0, hz1, hz2⟩ := info_parts info_byte
  obtain ⟨v, hW, hown, hg⟩ := h.cell
  have hcell : w.cell? ⟨W, 0, none⟩ = some v := by simp [World.cell?, hW]
  have hfr : w.frozen? ⟨W, 0, none⟩ = false := by simp [World.frozen?, hW]
  have HW := Lib.hid hW
  have HO := Lib.hid hown
  have HG := Lib.hid hg
  have HM := Lib.hid hm
  have HB : Hid ((bcs new).length = m) := by show _ = _; rw [bcs_length]; exact hm
  have HS := Lib.hid hs
  obtain ⟨A0, c0, rfl⟩ := own_form hown
  clear h hW hown hg hm hs
  go_enter Try.func68, Try.ntmps68
  go_wp2_with (at_builtin; refine wpList_append_holds rfl (.tmp 8) (.tmp 9) 34 rfl 5 i0 (.int .u8 0) 1 Try.underlying34 hi hz0 hz1 hz2 rfl (.slice A0 l.length c0) l.length (bcs l) rfl HO.out s A m c (bcs new) rfl HB.out HS.out (bcs_one _) (by unfold maxLen; omega) (by omega) ?_; intro A1 c1 w1 hown1 hgrow1 hat1; have hWl := (Array.getElem?_eq_some_iff.1 HW.out).1; have hne : some W ≠ (Value.slice A0 l.length c0).ownBlock := fun he => own_ne HW.out HO.out he.symm (by decide) rfl; have hcell1 := hgrow1.cell (a := ⟨W, 0, none⟩) hcell hne; have hfr1 := (World.frozen?_of_block (a := ⟨W, 0, none⟩) (hgrow1.block W hWl hne)).trans hfr)
  go_end0
  exact put_close HW.out HO.out HG.out rfl HM.out hown1 hgrow1 hat1

/-- What the methods leave: the writer itself is told, behind what it has. -/
def WtPost (w : World) (W g : Nat) (l : List UInt8) (e : Ending) (w' : World) : Prop :=
  e = .returned (.pointer (some ⟨W, 0, none⟩)) ∧ ∃ g', (g' = g ∨ w.heap.size ≤ g') ∧ Wtr w' W g' l ∧ Ch [W, g] w w'

/-- put of bytes that were laid in a new block of their own. -/
theorem put_new (W g : Nat) (m : Nat) (cs : Array Value) (l new : List UInt8) (w : World) (h : Wtr w W g l) (hcs : cs = (bcs new).toArray) (hm : new.length = m) (hl : l.length + m ≤ 1099511627776) :
    Calls Try.prog 68 #[.pointer (some ⟨W, 0, none⟩), .slice (some ⟨w.heap.size, 0, none⟩) m m] (w.alloc (.cells cs 5)) (PutPost w W g (l ++ new) (.tuple #[])) := by
  subst hcs
  have hlt := h.lt
  have hch : Ch [] w (w.alloc (.cells (bcs new).toArray 5)) := (Ch.refl [] w).alloc _
  refine (put_any W g w.heap.size (some ⟨w.heap.size, 0, none⟩) m m l new _ (h.keep hch (by simp) (by simp)) (Holds.of_row (heap_alloc_new w _)) hm hl).mono ?_
  rintro e w' ⟨rfl, g', hg', hw', hc'⟩
  exact ⟨rfl, g', hg'.imp id (fun h => by simp at h; omega), hw', (hch.mono (by simp)).trans hc'⟩

/-- A number as bytes, the highest first. -/
def be8 (n : Nat) : List UInt8 := [UInt8.ofNat n]
def be16 (n : Nat) : List UInt8 := [UInt8.ofNat (n / 256), UInt8.ofNat n]
set_option maxHeartbeats 400000 in
theorem wu8_any (W g : Nat) (l : List UInt8) (x : Int) (w : World) (h : Wtr w W g l) (hl : l.length ≤ 549755813888) (hx0 : 0 ≤ x) (hx1 : x < 256) :
    Calls Try.prog 56 #[.pointer (some ⟨W, 0, none⟩), .int .u8 x] w (WtPost w W g (l ++ be8 x.toNat)) := by
  have HW := Lib.hid h
  clear h
  have HC : Hid (#[Value.int .u8 x] = (bcs (be8 x.toNat)).toArray) := by
    show _ = _
    simp [be8, bcs]
    omega
  go_enter Try.func56, Try.ntmps56
  go_wp2_with (go_at_call 68; refine (put_new W g 1 _ l (be8 x.toNat) w HW.out HC.out rfl (by omega)).mono ?_; rintro e w1 ⟨rfl, g1, hg1, hw1, hc1⟩)
  go_ret
  exact ⟨rfl, g1, hg1, hw1, hc1⟩

set_option maxHeartbeats 400000 in
theorem wdone_any (W g : Nat) (l : List UInt8) (w : World) (h : Wtr w W g l) (hl : l.length ≤ 1099511627776) :
    Calls Try.prog 58 #[.pointer (some ⟨W, 0, none⟩)] w (CopyPost w l) := by
  obtain ⟨v, hW, hown, hg⟩ := h.cell
  obtain ⟨A0, c0, rfl⟩ := own_form hown
  have hcell : w.cell? ⟨W, 0, none⟩ = some (.slice A0 l.length c0) := by simp [World.cell?, hW]
  have HH : Hid (Holds w g A0 (bcs l)) := own_holds hown (by
    intro h' hh'
    rcases hg with ⟨h0, _⟩ | h0 <;> rw [h0] at hh' <;> cases hh'
    rfl)
  clear h hW hown hg
  go_enter Try.func58, Try.ntmps58
  go_wp2_with (go_at_call 69; refine (join_one g A0 c0 l w HH.out hl).mono ?_; rintro e w1 ⟨G, hG, rfl, hrow, hb⟩)
  go_ret
  exact ⟨G, hG, rfl, hrow, hb⟩

/-- Parts whose blocks, the row's own and each part's, are all of one kind. -/
def PartsOk (w : World) (ok : Nat → Prop) (P : Option Addr) (ps : List (List UInt8)) : Prop :=
  ∀ k l, ps[k]? = some l → ∃ b o g A c, P = some ⟨b, o, none⟩ ∧ ok b ∧ w.cell? ⟨b, o + k, none⟩ = some (.slice A l.length c) ∧ (0 < l.length → ok g) ∧ Holds w g A (bcs l)
theorem PartsOk.keep {F : List Nat} {w w' : World} {ok : Nat → Prop} {P : Option Addr} {ps : List (List UInt8)} (h : PartsOk w ok P ps) (hc : Ch F w w') (hF : ∀ x ∈ F, ¬ ok x) : PartsOk w' ok P ps := by
  intro k l hk
  obtain ⟨b, o, g, A, c, hP, hb, hcell, hg, hh⟩ := h k l hk
  exact ⟨b, o, g, A, c, hP, hb, (hc.cell (World.block_lt_of_cell? w _ hcell) (fun hm => hF _ hm hb)).trans hcell, hg, hh.keep hc (fun hp hm => hF _ hm (hg (by simpa [bcs] using hp)))⟩
end Go.Proofs.Ytdcnmbglbopgdaa
