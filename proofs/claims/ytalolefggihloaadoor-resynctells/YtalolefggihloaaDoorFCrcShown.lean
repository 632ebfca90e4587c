/-
  lamplightlaw02.shown answers true, and turns nothing that was there. Beside it: bytes as a string; parts of a call's own making.
-/
import Derived.Test.YtalolefggihloaaDoorFCrcSeal
import Derived.Lib.SlBytesConst
namespace Go.Proofs.YtalolefggihloaaDoor
set_option linter.unusedVariables false
set_option linter.unusedSimpArgs false
open Go.RowKit

/-- Two parts. -/
theorem two_part {w : World} {g g' : Nat} {A B : Option Addr} {c n c' n' : Nat} {l m : List UInt8} (h : Holds w g A (bcs l)) (hn : l.length = n) (h' : Holds w g' B (bcs m)) (hn' : m.length = n') : PartsAt (w.alloc (.cells #[.slice A n c, .slice B n' c'] 32)) (some ⟨w.heap.size, 0, none⟩) [l, m] := by
  subst hn hn'
  intro k x hk
  match k, hk with
  | 0, hk =>
    simp at hk
    subst hk
    exact ⟨w.heap.size, 0, g, A, c, rfl, (cell_alloc_new _ _ _ _ _ rfl).trans rfl, h.keep ((Ch.refl [] _).alloc _) (by simp)⟩
  | 1, hk =>
    simp at hk
    subst hk
    exact ⟨w.heap.size, 0, g', B, c', rfl, (cell_alloc_new _ _ _ _ _ rfl).trans rfl, h'.keep ((Ch.refl [] _).alloc _) (by simp)⟩

/-- Three parts. -/
theorem three_part {w : World} {g g' g'' : Nat} {A B C : Option Addr} {c n c' n' c'' n'' : Nat} {l m r : List UInt8} (h : Holds w g A (bcs l)) (hn : l.length = n) (h' : Holds w g' B (bcs m)) (hn' : m.length = n') (h'' : Holds w g'' C (bcs r)) (hn'' : r.length = n'') : PartsAt (w.alloc (.cells #[.slice A n c, .slice B n' c', .slice C n'' c''] 32)) (some ⟨w.heap.size, 0, none⟩) [l, m, r] := by
  subst hn hn' hn''
  intro k x hk
  match k, hk with
  | 0, hk =>
    simp at hk
    subst hk
    exact ⟨w.heap.size, 0, g, A, c, rfl, (cell_alloc_new _ _ _ _ _ rfl).trans rfl, h.keep ((Ch.refl [] _).alloc _) (by simp)⟩
  | 1, hk =>
    simp at hk
    subst hk
    exact ⟨w.heap.size, 0, g', B, c', rfl, (cell_alloc_new _ _ _ _ _ rfl).trans rfl, h'.keep ((Ch.refl [] _).alloc _) (by simp)⟩
  | 2, hk =>
    simp at hk
    subst hk
    exact ⟨w.heap.size, 0, g'', C, c'', rfl, (cell_alloc_new _ _ _ _ _ rfl).trans rfl, h''.keep ((Ch.refl [] _).alloc _) (by simp)⟩

/-- What stays known from world to world: the table; that a slice holds its bytes; that nothing that was there has turned. -/
structure St (B : Nat) (w : World) (g : Nat) (A : Option Addr) (l : List UInt8) (x : World) : Prop where
  tab : Tab x
  holds : Holds x g A (bcs l)
  below : Below B w x
  le : B ≤ x.heap.size
theorem St.step {B : Nat} {w x y : World} {g : Nat} {A : Option Addr} {l : List UInt8} (h : St B w g A l x) (hb : Below x.heap.size x y) : St B w g A l y :=
  ⟨h.tab.keep (Ch.of_below hb) (by simp), h.holds.keep (Ch.of_below hb) (by simp), h.below.trans (hb.mono h.le), Nat.le_trans h.le hb.size⟩
theorem St.alloc {B : Nat} {w x : World} {g : Nat} {A : Option Addr} {l : List UInt8} (h : St B w g A l x) (o : Obj) : St B w g A l (x.alloc o) := h.step (((Ch.refl [] x).alloc o).below (by simp))
theorem St.drew {B : Nat} {w x : World} {g : Nat} {A : Option Addr} {l : List UInt8} (h : St B w g A l x) : St B w g A l x.drew := h.step (((Ch.refl [] x).drew).below (by simp))
/-- Of another slice that is held by then. -/
theorem St.hold {B : Nat} {w x : World} {g g' : Nat} {A A' : Option Addr} {l l' : List UInt8} (h : St B w g A l x) (h' : Holds x g' A' (bcs l')) : St B w g' A' l' x := ⟨h.tab, h', h.below, h.le⟩

abbrev nine : List UInt8 := [49, 50, 51, 52, 53, 54, 55, 56, 57]
theorem sum_nine : (sum nine).toNat = 10673 := by decide +kernel
theorem sum_none : (sum []).toNat = 65535 := by decide +kernel
theorem sld_nine : sld nine = [49, 50, 51, 52, 53, 54, 55, 56, 57, 41, 177] := by decide +kernel
theorem valid_sld (l : List UInt8) : validB (sld l) = true := by simp [validB, sld_length, sld_sum]
theorem valid_nine : validB nine = false := by decide +kernel
theorem valid_none : validB [] = false := by decide +kernel

theorem table_on {P : Option Addr} {c n : Nat} (ps : List (List UInt8)) {w : World} (ht : Tab w) (hp : PartsAt w P ps) (hlen : ps.length = n) (hn : ps.length ≤ 1099511627776) (hL : ∀ l ∈ ps, l.length ≤ 1099511627776) (v : Int) (hv : ((sum ps.flatten).toNat : Int) = v) :
    Calls Tryd.prog 36 #[.slice P n c] w fun e w' => e = .returned (.int .u16 v) ∧ Below w.heap.size w w' := by
  subst hlen
  refine (table_any P c ps w ht hp hn hL).mono ?_
  rintro e w' ⟨rfl, rfl⟩
  exact ⟨by rw [hv], Below.refl _ _⟩
theorem append_on {g : Nat} {A : Option Addr} {n c : Nat} {l : List UInt8} {w : World} (ht : Tab w) (h : Holds w g A (bcs l)) (hn : l.length = n) (hl : n ≤ 1099511627774) :
    Calls Tryd.prog 24 #[.slice A n c] w fun e w' => ∃ X, w.heap.size ≤ X ∧ e = .returned (.slice (some ⟨X, 0, none⟩) (n + 2) (n + 2)) ∧ Row w' X (sld l) ∧ Below w.heap.size w w' := by
  refine (append_any g A n c l w ht h hn hl).mono ?_
  rintro e w' ⟨rfl, h1, h2⟩
  exact ⟨_, Nat.le_add_right _ 1, rfl, h1, h2⟩
theorem valid_on {g : Nat} {A : Option Addr} {n c : Nat} {l : List UInt8} {w : World} (ht : Tab w) (h : Holds w g A (bcs l)) (hn : l.length = n) (hc : n ≤ c) (hl : n ≤ 1099511627776) (b : Bool) (hb : validB l = b) :
    Calls Tryd.prog 28 #[.slice A n c] w fun e w' => e = .returned (.bool b) ∧ Below w.heap.size w w' := by
  subst hb
  exact valid_any g A n c l w ht h hn hc hl

end Go.Proofs.YtalolefggihloaaDoor
