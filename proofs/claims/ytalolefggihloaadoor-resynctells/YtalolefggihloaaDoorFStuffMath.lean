/-
  Bytes that are stuffed, and as they were: in lists; nothing of the program.
-/
import Derived.Test.YtalolefggihloaaDoorFBase
namespace Go.Proofs.YtalolefggihloaaDoor
set_option linter.unusedVariables false
set_option linter.unusedSimpArgs false

def stf1 (b : UInt8) : List UInt8 := if b = 126 then [125, 94] else if b = 125 then [125, 93] else [b]
def stf (l : List UInt8) : List UInt8 := l.flatMap stf1

/-- Bytes ahead of what comes out. -/
def cat (p : List UInt8) : Except Nat (List UInt8) → Except Nat (List UInt8)
  | .ok q => .ok (p ++ q)
  | .error e => .error e
def unst : List UInt8 → Except Nat (List UInt8)
  | [] => .ok []
  | [b] => if b = 126 then .error 3 else if b = 125 then .error 2 else .ok [b]
  | b :: c :: r => if b = 126 then .error 3 else if b = 125 then (if c = 94 ∨ c = 93 then cat [c + 32] (unst r) else .error 3) else cat [b] (unst (c :: r))

theorem cat_cat (p q : List UInt8) (x : Except Nat (List UInt8)) : cat p (cat q x) = cat (p ++ q) x := by cases x <;> simp [cat]
theorem cat_nil (x : Except Nat (List UInt8)) : cat [] x = x := by cases x <;> simp [cat]

theorem unst_nil : unst [] = .ok [] := by simp [unst]
theorem unst_flag (r : List UInt8) : unst (126 :: r) = .error 3 := by cases r <;> simp [unst]
theorem unst_plain (b : UInt8) (r : List UInt8) (h1 : b ≠ 126) (h2 : b ≠ 125) : unst (b :: r) = cat [b] (unst r) := by
  cases r with
  | nil => simp [unst, h1, h2, cat]
  | cons c r => simp [unst, h1, h2]
theorem unst_end : unst [125] = .error 2 := by simp [unst]
theorem unst_good (c : UInt8) (r : List UInt8) (h : c = 94 ∨ c = 93) : unst (125 :: c :: r) = cat [c + 32] (unst r) := by simp [unst, h]
theorem unst_bad (c : UInt8) (r : List UInt8) (h : ¬ (c = 94 ∨ c = 93)) : unst (125 :: c :: r) = .error 3 := by simp [unst, h]

theorem stf_nil : stf [] = [] := rfl
theorem stf_cons (b : UInt8) (l : List UInt8) : stf (b :: l) = stf1 b ++ stf l := by simp [stf]
theorem stf_append (a b : List UInt8) : stf (a ++ b) = stf a ++ stf b := by simp [stf]
theorem stf1_plain (b : UInt8) (h1 : b ≠ 126) (h2 : b ≠ 125) : stf1 b = [b] := by simp [stf1, h1, h2]

theorem stf1_cases (b : UInt8) : (b = 126 ∧ stf1 b = [125, 94]) ∨ (b = 125 ∧ stf1 b = [125, 93]) ∨ (b ≠ 126 ∧ b ≠ 125 ∧ stf1 b = [b]) := by
  by_cases h1 : b = 126
  · exact .inl ⟨h1, by simp [stf1, h1]⟩
  · by_cases h2 : b = 125
    · exact .inr (.inl ⟨h2, by simp [stf1, h2]⟩)
    · exact .inr (.inr ⟨h1, h2, stf1_plain b h1 h2⟩)

/-- What is stuffed comes back, whatever is behind. -/
theorem unst_stf_append : ∀ (l r : List UInt8), unst (stf l ++ r) = cat l (unst r)
  | [], r => by rw [stf_nil, List.nil_append, cat_nil]
  | b :: l, r => by
    rw [stf_cons, List.append_assoc]
    rcases stf1_cases b with ⟨rfl, h⟩ | ⟨rfl, h⟩ | ⟨h1, h2, h⟩
    · rw [h]
      show unst (125 :: 94 :: (stf l ++ r)) = _
      rw [unst_good _ _ (.inl rfl), unst_stf_append l r, cat_cat]
      rfl
    · rw [h]
      show unst (125 :: 93 :: (stf l ++ r)) = _
      rw [unst_good _ _ (.inr rfl), unst_stf_append l r, cat_cat]
      rfl
    · rw [h]
      show unst (b :: (stf l ++ r)) = _
      rw [unst_plain _ _ h1 h2, unst_stf_append l r, cat_cat]
      rfl
theorem unst_stf (l : List UInt8) : unst (stf l) = .ok l := by
  have := unst_stf_append l []
  rw [List.append_nil, unst_nil] at this
  rw [this, cat, List.append_nil]

theorem stf_length_ge : ∀ l : List UInt8, l.length ≤ (stf l).length
  | [] => by simp [stf]
  | b :: l => by
    rw [stf_cons, List.length_append, List.length_cons]
    have := stf_length_ge l
    rcases stf1_cases b with ⟨_, h⟩ | ⟨_, h⟩ | ⟨_, _, h⟩ <;> rw [h] <;> simp <;> omega
theorem stf_length_le : ∀ l : List UInt8, (stf l).length ≤ 2 * l.length
  | [] => by simp [stf]
  | b :: l => by
    rw [stf_cons, List.length_append, List.length_cons]
    have := stf_length_le l
    rcases stf1_cases b with ⟨_, h⟩ | ⟨_, h⟩ | ⟨_, _, h⟩ <;> rw [h] <;> simp <;> omega
theorem stf_no_flag (l : List UInt8) : ∀ b ∈ stf l, b ≠ 126 := by
  intro b hb
  simp only [stf, List.mem_flatMap] at hb
  obtain ⟨a, _, ha⟩ := hb
  rcases stf1_cases a with ⟨_, h⟩ | ⟨_, h⟩ | ⟨h1, _, h⟩
  · rw [h] at ha; simp at ha; rcases ha with rfl | rfl <;> decide
  · rw [h] at ha; simp at ha; rcases ha with rfl | rfl <;> decide
  · rw [h] at ha; simp at ha; subst ha; exact h1

theorem cat_ok {p q : List UInt8} {x : Except Nat (List UInt8)} (h : cat p x = .ok q) : ∃ r, x = .ok r ∧ q = p ++ r := by
  cases x with
  | ok r => simp [cat] at h; exact ⟨r, rfl, h.symm⟩
  | error e => simp [cat] at h

/-- What is unstuffed is stuffed as it was. -/
theorem stf_unst : ∀ (n : Nat) (b z : List UInt8), b.length ≤ n → unst b = .ok z → stf z = b
  | _, [], z, _, h => by simp [unst] at h; subst h; rfl
  | 0, b :: r, z, hl, h => by simp at hl
  | n + 1, b :: r, z, hl, h => by
    by_cases h1 : b = 126
    · subst h1; rw [unst_flag] at h; cases h
    · by_cases h2 : b = 125
      · subst h2
        cases r with
        | nil => rw [unst_end] at h; cases h
        | cons c r =>
          by_cases hc : c = 94 ∨ c = 93
          · rw [unst_good _ _ hc] at h
            obtain ⟨q, hq, rfl⟩ := cat_ok h
            have := stf_unst n r q (by simp at hl; omega) hq
            rw [List.singleton_append, stf_cons, this]
            rcases hc with rfl | rfl <;> rfl
          · rw [unst_bad _ _ hc] at h; cases h
      · rw [unst_plain _ _ h1 h2] at h
        obtain ⟨q, hq, rfl⟩ := cat_ok h
        have := stf_unst n r q (by simp at hl; omega) hq
        rw [List.singleton_append, stf_cons, this, stf1_plain _ h1 h2]
        rfl
theorem stf_of_unst (b z : List UInt8) (h : unst b = .ok z) : stf z = b := stf_unst b.length b z (Nat.le_refl _) h

theorem unst_length (b z : List UInt8) (h : unst b = .ok z) : z.length ≤ b.length := by
  rw [← stf_of_unst b z h]
  exact stf_length_ge z

/-- In parts. -/
theorem unst_append_ok (a b p : List UInt8) (h : unst a = .ok p) : unst (a ++ b) = cat p (unst b) := by
  rw [← stf_of_unst a p h]
  exact unst_stf_append p b
theorem unst_append_form : ∀ (n : Nat) (a b : List UInt8), a.length ≤ n → unst a = .error 3 → unst (a ++ b) = .error 3
  | _, [], b, _, h => by simp [unst] at h
  | 0, x :: r, b, hl, h => by simp at hl
  | n + 1, x :: r, b, hl, h => by
    rw [List.cons_append]
    by_cases h1 : x = 126
    · subst h1; rw [unst_flag]
    · by_cases h2 : x = 125
      · subst h2
        cases r with
        | nil => rw [unst_end] at h; cases h
        | cons c r =>
          rw [List.cons_append]
          by_cases hc : c = 94 ∨ c = 93
          · rw [unst_good _ _ hc] at h ⊢
            have hr : unst r = .error 3 := by
              cases hu : unst r with
              | ok q => rw [hu] at h; simp [cat] at h
              | error e => rw [hu] at h; simpa [cat] using h
            rw [unst_append_form n r b (by simp at hl; omega) hr]
            rfl
          · rw [unst_bad _ _ hc]
      · rw [unst_plain _ _ h1 h2] at h ⊢
        have hr : unst r = .error 3 := by
          cases hu : unst r with
          | ok q => rw [hu] at h; simp [cat] at h
          | error e => rw [hu] at h; simpa [cat] using h
        rw [unst_append_form n r b (by simp at hl; omega) hr]
        rfl

/-- The error is one of two. -/
theorem unst_error : ∀ (n : Nat) (b : List UInt8) (e : Nat), b.length ≤ n → unst b = .error e → e = 2 ∨ e = 3
  | _, [], e, _, h => by simp [unst] at h
  | 0, x :: r, e, hl, h => by simp at hl
  | n + 1, x :: r, e, hl, h => by
    by_cases h1 : x = 126
    · subst h1; rw [unst_flag] at h; cases h; exact .inr rfl
    · by_cases h2 : x = 125
      · subst h2
        cases r with
        | nil => rw [unst_end] at h; cases h; exact .inl rfl
        | cons c r =>
          by_cases hc : c = 94 ∨ c = 93
          · rw [unst_good _ _ hc] at h
            cases hu : unst r with
            | ok q => rw [hu] at h; simp [cat] at h
            | error f => rw [hu] at h; simp [cat] at h; subst h; exact unst_error n r f (by simp at hl; omega) hu
          · rw [unst_bad _ _ hc] at h; cases h; exact .inr rfl
      · rw [unst_plain _ _ h1 h2] at h
        cases hu : unst r with
        | ok q => rw [hu] at h; simp [cat] at h
        | error f => rw [hu] at h; simp [cat] at h; subst h; exact unst_error n r f (by simp at hl; omega) hu

/-- Cut off: behind a 7D, or as it was. -/
theorem stf_cut : ∀ (l : List UInt8) (k : Nat), k ≤ (stf l).length →
    (∃ j, j ≤ l.length ∧ (stf l).take k = stf (l.take j) ∧ (0 < k → (stf l)[k - 1]? ≠ some 125)) ∨ (∃ j, j < l.length ∧ 0 < k ∧ (stf l).take k = stf (l.take j) ++ [125] ∧ (stf l)[k - 1]? = some 125)
  | [], k, h => by
    left
    simp [stf] at h
    subst h
    exact ⟨0, by simp, by simp [stf], by omega⟩
  | b :: l, k, h => by
    rw [stf_cons] at h ⊢
    rcases Nat.eq_zero_or_pos k with rfl | hk
    · exact .inl ⟨0, by simp, by simp [stf], by omega⟩
    · rcases stf1_cases b with ⟨hb, h1⟩ | ⟨hb, h1⟩ | ⟨hb1, hb2, h1⟩
      · by_cases hk1 : k = 1
        · subst hk1
          right
          exact ⟨0, by simp, by omega, by rw [h1]; simp [stf], by rw [h1]; simp⟩
        · have hl2 : (stf1 b).length = 2 := by rw [h1]; rfl
          obtain ⟨q, rfl⟩ : ∃ q, k = q + 2 := ⟨k - 2, by omega⟩
          rw [List.length_append, hl2] at h
          have ht : (stf1 b ++ stf l).take (q + 2) = stf1 b ++ (stf l).take q := by rw [← hl2, Nat.add_comm, List.take_length_add_append]
          rcases stf_cut l q (by omega) with ⟨j, hj, hj2, hj3⟩ | ⟨j, hj, hq0, hj2, hj3⟩
          · left
            refine ⟨j + 1, by simp; omega, by rw [ht, hj2, List.take_succ_cons, stf_cons], fun _ => ?_⟩
            rcases Nat.eq_zero_or_pos q with rfl | hq0
            · rw [h1]; simp
            · rw [List.getElem?_append_right (by rw [hl2]; omega), hl2, show q + 2 - 1 - 2 = q - 1 by omega]
              exact hj3 hq0
          · right
            refine ⟨j + 1, by simp; omega, by omega, by rw [ht, hj2, List.take_succ_cons, stf_cons, List.append_assoc], ?_⟩
            rw [List.getElem?_append_right (by rw [hl2]; omega), hl2, show q + 2 - 1 - 2 = q - 1 by omega]
            exact hj3
      · by_cases hk1 : k = 1
        · subst hk1
          right
          exact ⟨0, by simp, by omega, by rw [h1]; simp [stf], by rw [h1]; simp⟩
        · have hl2 : (stf1 b).length = 2 := by rw [h1]; rfl
          obtain ⟨q, rfl⟩ : ∃ q, k = q + 2 := ⟨k - 2, by omega⟩
          rw [List.length_append, hl2] at h
          have ht : (stf1 b ++ stf l).take (q + 2) = stf1 b ++ (stf l).take q := by rw [← hl2, Nat.add_comm, List.take_length_add_append]
          rcases stf_cut l q (by omega) with ⟨j, hj, hj2, hj3⟩ | ⟨j, hj, hq0, hj2, hj3⟩
          · left
            refine ⟨j + 1, by simp; omega, by rw [ht, hj2, List.take_succ_cons, stf_cons], fun _ => ?_⟩
            rcases Nat.eq_zero_or_pos q with rfl | hq0
            · rw [h1]; simp
            · rw [List.getElem?_append_right (by rw [hl2]; omega), hl2, show q + 2 - 1 - 2 = q - 1 by omega]
              exact hj3 hq0
          · right
            refine ⟨j + 1, by simp; omega, by omega, by rw [ht, hj2, List.take_succ_cons, stf_cons, List.append_assoc], ?_⟩
            rw [List.getElem?_append_right (by rw [hl2]; omega), hl2, show q + 2 - 1 - 2 = q - 1 by omega]
            exact hj3
      · have hl1 : (stf1 b).length = 1 := by rw [h1]; rfl
        obtain ⟨q, rfl⟩ : ∃ q, k = q + 1 := ⟨k - 1, by omega⟩
        rw [List.length_append, hl1] at h
        have ht : (stf1 b ++ stf l).take (q + 1) = stf1 b ++ (stf l).take q := by rw [← hl1, Nat.add_comm, List.take_length_add_append]
        rcases stf_cut l q (by omega) with ⟨j, hj, hj2, hj3⟩ | ⟨j, hj, hq0, hj2, hj3⟩
        · left
          refine ⟨j + 1, by simp; omega, by rw [ht, hj2, List.take_succ_cons, stf_cons], fun _ => ?_⟩
          rcases Nat.eq_zero_or_pos q with rfl | hq0
          · rw [h1]; simp [hb2]
          · rw [List.getElem?_append_right (by rw [hl1]; omega), hl1, show q + 1 - 1 - 1 = q - 1 by omega]
            exact hj3 hq0
        · right
          refine ⟨j + 1, by simp; omega, by omega, by rw [ht, hj2, List.take_succ_cons, stf_cons, List.append_assoc], ?_⟩
          rw [List.getElem?_append_right (by rw [hl1]; omega), hl1, show q + 1 - 1 - 1 = q - 1 by omega]
          exact hj3

theorem cut_short (l : List UInt8) (k : Nat) (hk : k ≤ (stf l).length) (h0 : 0 < k) (h : (stf l)[k - 1]? = some 125) : unst ((stf l).take k) = .error 2 := by
  rcases stf_cut l k hk with ⟨j, _, _, h3⟩ | ⟨j, _, _, h2, _⟩
  · exact absurd h (h3 h0)
  · rw [h2, unst_stf_append, unst_end]; rfl
theorem cut_ok (l : List UInt8) (k : Nat) (hk : k ≤ (stf l).length) (h : k = 0 ∨ (stf l)[k - 1]? ≠ some 125) : ∃ j, j ≤ l.length ∧ unst ((stf l).take k) = .ok (l.take j) := by
  rcases stf_cut l k hk with ⟨j, hj, h2, _⟩ | ⟨j, _, h0, _, h3⟩
  · exact ⟨j, hj, by rw [h2, unst_stf]⟩
  · rcases h with h | h
    · omega
    · exact absurd h3 h

/-- What comes out, and the error, as a call answers them. -/
def uOut (l : List UInt8) : List UInt8 := match unst l with | .ok q => q | .error _ => []
def uErr (l : List UInt8) : Nat := match unst l with | .ok _ => 0 | .error e => e
theorem uOut_ok {l q : List UInt8} (h : unst l = .ok q) : uOut l = q := by simp [uOut, h]
theorem uErr_ok {l q : List UInt8} (h : unst l = .ok q) : uErr l = 0 := by simp [uErr, h]
theorem uOut_error {l : List UInt8} {e : Nat} (h : unst l = .error e) : uOut l = [] := by simp [uOut, h]
theorem uErr_error {l : List UInt8} {e : Nat} (h : unst l = .error e) : uErr l = e := by simp [uErr, h]
theorem uOut_le (l : List UInt8) : (uOut l).length ≤ l.length := by
  cases h : unst l with
  | ok q => rw [uOut_ok h]; exact unst_length l q h
  | error e => rw [uOut_error h]; simp
theorem uErr_le (l : List UInt8) : uErr l ≤ 3 := by
  cases h : unst l with
  | ok q => rw [uErr_ok h]; omega
  | error e => rw [uErr_error h]; rcases unst_error _ l e (Nat.le_refl _) h with rfl | rfl <;> omega

end Go.Proofs.YtalolefggihloaaDoor
