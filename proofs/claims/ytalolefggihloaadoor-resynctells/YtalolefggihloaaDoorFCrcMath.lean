/-
  A sum of bits, in words of my own: the register as a word of sixteen bits, bit by bit, and byte by byte. It is linear; what is not nought stays so; a burst of at most sixteen bits, and two bits near enough, are told.
-/
import Derived.Test.YtalolefggihloaaDoorFBase
namespace Go.Proofs.YtalolefggihloaaDoor
set_option linter.unusedVariables false
set_option linter.unusedSimpArgs false

/-- One place to the left; if a bit fell out, xored with 1021. -/
def T (s : BitVec 16) : BitVec 16 := if s.msb then (s <<< 1) ^^^ 0x1021#16 else s <<< 1

def Tn : Nat → BitVec 16 → BitVec 16
  | 0, s => s
  | n + 1, s => Tn n (T s)

/-- A bit at the highest place. -/
def hi (x : Bool) : BitVec 16 := if x then 0x8000#16 else 0#16

def run (s : BitVec 16) : List Bool → BitVec 16
  | [] => s
  | x :: xs => run (T (s ^^^ hi x)) xs

theorem T_xor (a b : BitVec 16) : T (a ^^^ b) = T a ^^^ T b := by
  unfold T
  rw [BitVec.msb_xor, BitVec.shiftLeft_xor_distrib]
  cases a.msb <;> cases b.msb <;> simp
  · ac_rfl
  · ac_rfl
  · rw [show a <<< 1 ^^^ 4129#16 ^^^ (b <<< 1 ^^^ 4129#16) = a <<< 1 ^^^ b <<< 1 ^^^ (4129#16 ^^^ 4129#16) by ac_rfl]
    simp

theorem T_zero : T 0#16 = 0#16 := by decide

theorem T_nought (s : BitVec 16) (h : T s = 0#16) : s = 0#16 := by
  unfold T at h
  cases hm : s.msb
  · rw [hm] at h
    simp at h
    apply BitVec.eq_of_getLsbD_eq
    intro i hi
    by_cases h15 : i = 15
    · subst h15
      simpa [BitVec.msb_eq_getLsbD_last] using hm
    · have := congrArg (fun x => BitVec.getLsbD x (i + 1)) h
      simp [BitVec.getLsbD_shiftLeft] at this
      have h2 := this (by omega)
      simpa using h2
  · rw [hm] at h
    simp at h
    have := congrArg (fun x => BitVec.getLsbD x 0) h
    simp [BitVec.getLsbD_xor, BitVec.getLsbD_shiftLeft] at this

theorem Tn_xor : ∀ (n : Nat) (a b : BitVec 16), Tn n (a ^^^ b) = Tn n a ^^^ Tn n b
  | 0, _, _ => rfl
  | n + 1, a, b => by rw [Tn, T_xor, Tn_xor n]; rfl
theorem Tn_zero : ∀ n, Tn n 0#16 = 0#16
  | 0 => rfl
  | n + 1 => by rw [Tn, T_zero, Tn_zero n]
theorem Tn_nought : ∀ (n : Nat) (s : BitVec 16), Tn n s = 0#16 → s = 0#16
  | 0, _, h => h
  | n + 1, s, h => T_nought s (Tn_nought n (T s) h)
theorem Tn_add : ∀ (m n : Nat) (s : BitVec 16), Tn (m + n) s = Tn n (Tn m s)
  | 0, n, s => by rw [Nat.zero_add]; rfl
  | m + 1, n, s => by rw [show m + 1 + n = (m + n) + 1 by omega, Tn, Tn_add m n]; rfl

theorem hi_xor (x y : Bool) : hi (x ^^ y) = hi x ^^^ hi y := by
  cases x <;> cases y <;> decide

theorem run_append : ∀ (xs ys : List Bool) (s : BitVec 16), run s (xs ++ ys) = run (run s xs) ys
  | [], _, _ => rfl
  | x :: xs, ys, s => run_append xs ys _

/-- It is linear. -/
theorem run_xor : ∀ (xs ys : List Bool) (s t : BitVec 16), xs.length = ys.length → run (s ^^^ t) (List.zipWith (· ^^ ·) xs ys) = run s xs ^^^ run t ys
  | [], [], _, _, _ => rfl
  | x :: xs, y :: ys, s, t, h => by
    simp only [List.zipWith_cons_cons, run]
    rw [hi_xor, show s ^^^ t ^^^ (hi x ^^^ hi y) = (s ^^^ hi x) ^^^ (t ^^^ hi y) by ac_rfl, T_xor]
    exact run_xor xs ys _ _ (by simpa using h)
  | [], _ :: _, _, _, h => by simp at h
  | _ :: _, [], _, _, h => by simp at h

theorem run_noughts : ∀ (n : Nat) (s : BitVec 16), run s (List.replicate n false) = Tn n s
  | 0, _ => rfl
  | n + 1, s => by
    simp only [List.replicate_succ, run, Tn]
    rw [show s ^^^ hi false = s by simp [hi], run_noughts n]

/-- Bits as a word, the first one highest. -/
def V : List Bool → BitVec 16
  | [] => 0#16
  | x :: xs => hi x ^^^ (V xs >>> 1)

theorem hi_get (x : Bool) (i : Nat) : (hi x).getLsbD i = (x && decide (i = 15)) := by
  cases x
  · simp [hi]
  · by_cases h : i < 16
    · have : ∀ i : Fin 16, (hi true).getLsbD i.val = (true && decide (i.val = 15)) := by decide
      exact this ⟨i, h⟩
    · rw [BitVec.getLsbD_of_ge _ _ (by omega)]
      simp; omega

theorem V_get : ∀ (xs : List Bool) (i : Nat), i ≤ 15 → (V xs).getLsbD i = (xs[15 - i]?).getD false
  | [], i, _ => by simp [V]
  | x :: xs, i, hi' => by
    simp only [V, BitVec.getLsbD_xor, hi_get, BitVec.getLsbD_ushiftRight]
    by_cases h : i = 15
    · subst h
      rw [BitVec.getLsbD_of_ge _ _ (by omega)]
      simp
    · rw [V_get xs (1 + i) (by omega)]
      rw [show 15 - i = (15 - (1 + i)) + 1 by omega]
      simp [h]

theorem T_shift (v : BitVec 16) (h : v.getLsbD 0 = false) : T (v >>> 1) = v := by
  unfold T
  rw [show (v >>> 1).msb = false by simp [BitVec.msb_ushiftRight]]
  simp
  apply BitVec.eq_of_getLsbD_eq
  intro i hi
  by_cases h0 : i = 0
  · subst h0
    simp
    rw [← BitVec.getLsbD_eq_getElem (by omega)]
    exact h
  · simp [BitVec.getLsbD_shiftLeft, h0, hi, BitVec.getLsbD_ushiftRight]
    rw [show 1 + (i - 1) = i by omega]
    exact BitVec.getLsbD_eq_getElem hi

/-- So many bits as there are places: the word, xored, and moved. -/
theorem run_word : ∀ (xs : List Bool) (s : BitVec 16), xs.length ≤ 16 → run s xs = Tn xs.length (s ^^^ V xs)
  | [], s, _ => by simp [run, Tn, V]
  | x :: xs, s, h => by
    simp only [List.length_cons] at h
    have h0 : (V xs).getLsbD 0 = false := by
      rw [V_get xs 0 (by omega), List.getElem?_eq_none (by omega)]
      rfl
    simp only [run, List.length_cons, Tn, V]
    rw [run_word xs _ (by omega), show s ^^^ (hi x ^^^ V xs >>> 1) = (s ^^^ hi x) ^^^ (V xs >>> 1) by ac_rfl, T_xor (s ^^^ hi x), T_shift _ h0]

/-- A burst of at most sixteen bits is told. -/
theorem burst (p q : Nat) (xs : List Bool) (h : xs.length ≤ 16) (hr : run 0#16 (List.replicate p false ++ xs ++ List.replicate q false) = 0#16) : ∀ x ∈ xs, x = false := by
  rw [run_append, run_append, run_noughts, run_noughts, Tn_zero, run_word xs _ h] at hr
  have hv : V xs = 0#16 := by
    have := Tn_nought _ _ (Tn_nought _ _ hr)
    simpa using this
  intro x hx
  obtain ⟨i, hi, rfl⟩ := List.mem_iff_getElem.1 hx
  have := V_get xs (15 - i) (by omega)
  rw [hv, show 15 - (15 - i) = i by omega, List.getElem?_eq_getElem hi] at this
  simpa using this.symm

/-- None of the next n is s. -/
def Far (s : BitVec 16) : Nat → BitVec 16 → Bool
  | 0, _ => true
  | n + 1, x => (T x != s) && Far s n (T x)

theorem Far.ne {s : BitVec 16} : ∀ {n : Nat} {x : BitVec 16} (_ : Far s n x = true) (d : Nat), 1 ≤ d → d ≤ n → Tn d x ≠ s
  | 0, _, _, d, h1, h2 => by omega
  | n + 1, x, h, d, h1, h2 => by
    simp only [Far, Bool.and_eq_true, bne_iff_ne] at h
    match d, h1 with
    | 1, _ => exact h.1
    | d + 2, _ => exact Far.ne h.2 (d + 1) (by omega) (by omega)

theorem far_high : Far 0x8000#16 4000 0x8000#16 = true := by decide +kernel

/-- Two bits are told, if they stand at most four thousand apart. -/
theorem two_bits (p d q : Nat) (hd : d + 1 ≤ 4000) : run 0#16 (List.replicate p false ++ [true] ++ List.replicate d false ++ [true] ++ List.replicate q false) ≠ 0#16 := by
  intro hr
  rw [run_append, run_append, run_append, run_append, run_noughts, run_noughts, run_noughts, Tn_zero] at hr
  have h1 := Tn_nought _ _ hr
  have h2 : Tn (d + 1) 0x8000#16 ^^^ 0x8000#16 = 0#16 := by
    have h3 := T_nought _ h1
    simpa [run, hi, Tn] using h3
  have h4 : Tn (d + 1) 0x8000#16 = 0x8000#16 := by
    have := congrArg (· ^^^ 0x8000#16) h2
    simpa [BitVec.xor_assoc] using this
  exact Far.ne far_high (d + 1) (by omega) hd h4

/-- A byte's bits, the highest first. -/
def bitsOf (b : UInt8) : List Bool := [b.toBitVec.getLsbD 7, b.toBitVec.getLsbD 6, b.toBitVec.getLsbD 5, b.toBitVec.getLsbD 4, b.toBitVec.getLsbD 3, b.toBitVec.getLsbD 2, b.toBitVec.getLsbD 1, b.toBitVec.getLsbD 0]
def bitsOn (l : List UInt8) : List Bool := l.flatMap bitsOf

/-- A byte as the higher one of a word. -/
def up (b : UInt8) : BitVec 16 := b.toBitVec.setWidth 16 <<< 8
def byteStep (s : BitVec 16) (b : UInt8) : BitVec 16 := Tn 8 (s ^^^ up b)
def sumF (s : BitVec 16) (l : List UInt8) : BitVec 16 := l.foldl byteStep s

theorem bits_len (b : UInt8) : (bitsOf b).length = 8 := rfl
theorem bitsOn_len : ∀ l : List UInt8, (bitsOn l).length = 8 * l.length
  | [] => rfl
  | b :: l => by
    show (bitsOf b ++ bitsOn l).length = _
    rw [List.length_append, bits_len, bitsOn_len l, List.length_cons]
    omega

theorem V_byte (b : UInt8) : V (bitsOf b) = up b := by
  apply BitVec.eq_of_getLsbD_eq
  intro i hi
  rw [V_get _ i (by omega)]
  unfold up
  simp only [BitVec.getLsbD_shiftLeft, BitVec.getLsbD_setWidth]
  rcases (by omega : i = 0 ∨ i = 1 ∨ i = 2 ∨ i = 3 ∨ i = 4 ∨ i = 5 ∨ i = 6 ∨ i = 7 ∨ i = 8 ∨ i = 9 ∨ i = 10 ∨ i = 11 ∨ i = 12 ∨ i = 13 ∨ i = 14 ∨ i = 15) with rfl | rfl | rfl | rfl | rfl | rfl | rfl | rfl | rfl | rfl | rfl | rfl | rfl | rfl | rfl | rfl <;> simp [bitsOf]

theorem run_byte (s : BitVec 16) (b : UInt8) : run s (bitsOf b) = byteStep s b := by
  rw [run_word _ _ (by rw [bits_len]; omega), V_byte, bits_len]
  rfl

theorem sumF_run : ∀ (l : List UInt8) (s : BitVec 16), sumF s l = run s (bitsOn l)
  | [], _ => rfl
  | b :: l, s => by
    show sumF (byteStep s b) l = run s (bitsOf b ++ bitsOn l)
    rw [run_append, run_byte, sumF_run l]

theorem sumF_append (s : BitVec 16) (l m : List UInt8) : sumF s (l ++ m) = sumF (sumF s l) m := by
  simp [sumF, List.foldl_append]

/-- It is linear, byte by byte. -/
theorem up_xor (a b : UInt8) : up (a ^^^ b) = up a ^^^ up b := by
  unfold up
  rw [UInt8.toBitVec_xor, BitVec.setWidth_xor, BitVec.shiftLeft_xor_distrib]
theorem byteStep_xor (s t : BitVec 16) (a b : UInt8) : byteStep (s ^^^ t) (a ^^^ b) = byteStep s a ^^^ byteStep t b := by
  unfold byteStep
  rw [up_xor, ← Tn_xor]
  congr 1
  ac_rfl
theorem sumF_xor : ∀ (l m : List UInt8) (s t : BitVec 16), l.length = m.length → sumF (s ^^^ t) (List.zipWith (· ^^^ ·) l m) = sumF s l ^^^ sumF t m
  | [], [], _, _, _ => rfl
  | a :: l, b :: m, s, t, h => by
    show sumF (byteStep (s ^^^ t) (a ^^^ b)) (List.zipWith (· ^^^ ·) l m) = sumF (byteStep s a) l ^^^ sumF (byteStep t b) m
    rw [byteStep_xor]
    exact sumF_xor l m _ _ (by simpa using h)
  | [], _ :: _, _, _, h => by simp at h
  | _ :: _, [], _, _, h => by simp at h

/-- Two bytes as a word. -/
def word (a b : UInt8) : BitVec 16 := up a ^^^ b.toBitVec.setWidth 16

theorem T_low (v : BitVec 16) (h : v.msb = false) : T v = v <<< 1 := by
  unfold T
  rw [h]
  simp
theorem Tn_low : ∀ (n : Nat) (v : BitVec 16), (∀ i, i < n → v.getLsbD (15 - i) = false) → n ≤ 16 → Tn n v = v <<< n
  | 0, v, _, _ => by simp [Tn]
  | n + 1, v, h, hn => by
    have h0 : v.msb = false := by
      have := h 0 (by omega)
      simpa [BitVec.msb_eq_getLsbD_last] using this
    rw [Tn, T_low v h0, Tn_low n (v <<< 1) (fun i hi => by
      have := h (i + 1) (by omega)
      simp only [BitVec.getLsbD_shiftLeft]
      rw [show 15 - i - 1 = 15 - (i + 1) by omega, this]
      simp) (by omega), ← BitVec.shiftLeft_add, Nat.add_comm]

theorem two_bytes (s : BitVec 16) (a b : UInt8) : sumF s [a, b] = Tn 16 (s ^^^ word a b) := by
  show Tn 8 (Tn 8 (s ^^^ up a) ^^^ up b) = _
  have h : up b = Tn 8 (b.toBitVec.setWidth 16) := by
    rw [Tn_low 8 _ (fun i hi => by
      rw [BitVec.getLsbD_setWidth, BitVec.getLsbD_of_ge b.toBitVec _ (by omega)]
      simp) (by omega)]
    rfl
  rw [h, ← Tn_xor, ← Tn_add 8 8, word]
  show Tn 16 _ = Tn 16 _
  congr 1
  ac_rfl

/-- What the sum stands behind has the sum nought, and nothing else has. -/
theorem sealed (s : BitVec 16) (l : List UInt8) (a b : UInt8) : sumF s (l ++ [a, b]) = 0#16 ↔ sumF s l = word a b := by
  rw [sumF_append, two_bytes]
  constructor
  · intro h
    have := Tn_nought _ _ h
    have h2 := congrArg (· ^^^ word a b) this
    simpa [BitVec.xor_assoc] using h2
  · intro h
    rw [h]
    simp [Tn_zero]

end Go.Proofs.YtalolefggihloaaDoor
