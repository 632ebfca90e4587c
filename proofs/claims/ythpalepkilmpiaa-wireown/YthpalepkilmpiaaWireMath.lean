/-
  What becomes of bytes, and of rows on their way, as mathematics. Nothing of the program is named here.
-/
import Derived.Test.YthpalepkilmpiaaFBase
namespace Go.Proofs.Ythpalepkilmpiaa
set_option linter.unusedVariables false
set_option linter.unusedSimpArgs false

/-- A fault. -/
structure Fl where
  k : Int
  n : Int
  y : UInt8
  b : List UInt8
/-- A row on its way, and how often it is held. -/
structure Rw where
  l : List UInt8
  h : Nat

def editM (l : List UInt8) (n : Int) (y : UInt8) : List UInt8 :=
  match l[n.toNat % l.length]? with
  | some b => l.set (n.toNat % l.length) (b ^^^ y)
  | none => l
def Fl.of (f : Fl) (l : List UInt8) : List (List UInt8) :=
  if f.k = 1 then [] else if f.k = 2 then [l, l] else if f.k = 4 then [editM l f.n f.y] else if f.k = 5 then [l.take f.n.toNat] else if f.k = 6 then [f.b.take 64, l] else [l]
def Fl.held (f : Fl) : Nat := if f.k = 3 then min f.n.toNat 16 else 0
def Fl.rows (f : Fl) (l : List UInt8) : List Rw := (f.of l).map fun b => ⟨b, f.held⟩
def putM (room : Int) (rs : List Rw) (f : Fl) (l : List UInt8) : List Rw × Int := if room < ((rs.length + (f.of l).length : Nat) : Int) then (rs, 5) else (rs ++ f.rows l, 0)
def freeN (rs : List Rw) : Nat := (rs.takeWhile fun r => r.h == 0).length
def takeM (rs : List Rw) : List (List UInt8) × List Rw :=
  match rs with
  | [] => ([], [])
  | r :: t => if 0 < r.h then ([], ⟨r.l, r.h - 1⟩ :: t) else (((r :: t).take (freeN (r :: t))).map (·.l), (r :: t).drop (freeN (r :: t)))

theorem editM_length (l : List UInt8) (n : Int) (y : UInt8) : (editM l n y).length = l.length := by
  unfold editM
  split
  · rw [List.length_set]
  · rfl
theorem Fl.of_len (f : Fl) (l : List UInt8) : (f.of l).length ≤ 2 := by
  unfold Fl.of
  repeat' split
  all_goals simp
theorem Fl.of_le (f : Fl) (l p : List UInt8) (h : p ∈ f.of l) : p.length ≤ max l.length 64 := by
  unfold Fl.of at h
  repeat' split at h
  all_goals simp at h
  · subst h; omega
  · subst h; rw [editM_length]; omega
  · subst h; rw [List.length_take]; omega
  · rcases h with rfl | rfl
    · rw [List.length_take]; omega
    · omega
  · subst h; omega
theorem Fl.held_le (f : Fl) : f.held ≤ 16 := by
  unfold Fl.held
  split <;> omega
theorem Fl.rows_len (f : Fl) (l : List UInt8) : (f.rows l).length = (f.of l).length := by simp [Fl.rows]
theorem freeN_le (rs : List Rw) : freeN rs ≤ rs.length := (List.takeWhile_sublist _).length_le
theorem takeM_len (rs : List Rw) : (takeM rs).1.length + (takeM rs).2.length = rs.length := by
  unfold takeM
  split
  · rfl
  · rename_i r t
    split
    · simp
    · have := freeN_le (r :: t)
      rw [List.length_map, List.length_take, List.length_drop]
      omega
theorem takeM_free {r : Rw} (t : List Rw) (h : r.h = 0) : takeM (r :: t) = (((r :: t).take (freeN (r :: t))).map (·.l), (r :: t).drop (freeN (r :: t))) := by
  show (if 0 < r.h then _ else _) = _
  rw [if_neg (by omega)]
theorem takeM_held {r : Rw} (t : List Rw) (h : 0 < r.h) : takeM (r :: t) = ([], ⟨r.l, r.h - 1⟩ :: t) := by
  show (if 0 < r.h then _ else _) = _
  rw [if_pos h]
theorem freeN_pos {r : Rw} (t : List Rw) (h : r.h = 0) : 0 < freeN (r :: t) := by
  unfold freeN
  rw [List.takeWhile_cons_of_pos (by simp [h])]
  simp

end Go.Proofs.Ythpalepkilmpiaa
