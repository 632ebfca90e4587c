/-
  Frames as numbers and bytes: which are right, their bytes between two that end them, and what bytes say. Nothing of the program is named here.
-/
import Derived.Test.YtalolefggihloaaDoorFCrcShown
import Derived.Test.YtalolefggihloaaDoorFStuffMath
namespace Go.Proofs.YtalolefggihloaaDoor
set_option linter.unusedVariables false
set_option linter.unusedSimpArgs false
open Go.RowKit

/-- A frame: address, kind, session, the two turns, its bytes. -/
structure Fr where
  a : Nat
  k : Nat
  s : Nat
  q : Nat
  c : Nat
  b : List UInt8

/-- All its numbers fit a byte. -/
structure Fr.Fits (f : Fr) : Prop where
  a : f.a < 256
  k : f.k < 256
  s : f.s < 256
  q : f.q < 256
  c : f.c < 256

def rightB (a k q c n : Nat) : Bool := decide ((1 ≤ a ∧ a ≤ 31) ∧ (1 ≤ k ∧ k ≤ 5) ∧ q ≤ 1 ∧ c ≤ 1 ∧ n ≤ 24)
def Fr.right (f : Fr) : Bool := rightB f.a f.k f.q f.c f.b.length
theorem rightB_iff {a k q c n : Nat} : rightB a k q c n = true ↔ (1 ≤ a ∧ a ≤ 31) ∧ (1 ≤ k ∧ k ≤ 5) ∧ q ≤ 1 ∧ c ≤ 1 ∧ n ≤ 24 := by simp [rightB]
theorem right_le {f : Fr} (h : f.right = true) : f.b.length ≤ 24 := (rightB_iff.1 h).2.2.2.2

/-- What stands ahead of the sum. -/
def plainB (a k s t n : Nat) (b : List UInt8) : List UInt8 := UInt8.ofNat a :: UInt8.ofNat k :: UInt8.ofNat s :: UInt8.ofNat t :: UInt8.ofNat n :: b
def Fr.plain (f : Fr) : List UInt8 := plainB f.a f.k f.s (f.q + 2 * f.c) f.b.length f.b
theorem plain_length (f : Fr) : f.plain.length = f.b.length + 5 := by simp [Fr.plain, plainB]
def Fr.inner (f : Fr) : List UInt8 := sld f.plain
theorem inner_length (f : Fr) : f.inner.length = f.b.length + 7 := by simp [Fr.inner, sld_length, plain_length]
/-- Between two that end it. -/
def Fr.mid (f : Fr) : List UInt8 := stf f.inner
def Fr.enc (f : Fr) : List UInt8 := 126 :: (f.mid ++ [126])
theorem enc_length (f : Fr) : f.enc.length = f.mid.length + 2 := by simp [Fr.enc]
theorem mid_ge (f : Fr) : f.b.length + 7 ≤ f.mid.length := by
  have := stf_length_ge f.inner
  rw [inner_length] at this
  exact this
theorem mid_le (f : Fr) : f.mid.length ≤ 2 * (f.b.length + 7) := by
  have := stf_length_le f.inner
  rw [inner_length] at this
  exact this
theorem enc_drop (f : Fr) : f.enc.drop 1 = f.mid ++ [126] := rfl
theorem enc_mid (f : Fr) : (f.enc.drop 1).take f.mid.length = f.mid := by rw [enc_drop]; simp
theorem mid_unst (f : Fr) : unst f.mid = .ok f.inner := unst_stf _
theorem inner_valid (f : Fr) : validB f.inner = true := valid_sld _
theorem inner_plain (f : Fr) : f.inner.take (f.inner.length - 2) = f.plain := by
  rw [inner_length, Fr.inner, sld, List.take_left']
  rw [plain_length]; rfl

/-- The frame that bytes ahead of a sum say, right or not; p has five at least. -/
def sayF (p : List UInt8) : Fr := ⟨(p.getD 0 0).toNat, (p.getD 1 0).toNat, (p.getD 2 0).toNat, (p.getD 3 0).toNat % 2, (p.getD 3 0).toNat / 2, p.drop 5⟩
def sayN (p : List UInt8) : Nat := (p.getD 4 0).toNat
def Fr.none : Fr := ⟨0, 0, 0, 0, 0, []⟩

/-- Of the bytes that are unstuffed: the frame's place and the error. -/
def agrees (p : List UInt8) : Bool := (sayF p).right && decide (sayN p = (sayF p).b.length)
def tellE (u : List UInt8) : Nat := if u.length < 7 then 2 else if validB u = false then 4 else if agrees (u.take (u.length - 2)) then 0 else 3
def tellF (u : List UInt8) : Fr := if tellE u = 0 then sayF (u.take (u.length - 2)) else Fr.none
def decE (l : List UInt8) : Nat := if uErr l = 0 then tellE (uOut l) else uErr l
def decF (l : List UInt8) : Fr := if uErr l = 0 then tellF (uOut l) else Fr.none

theorem decE_ok {l u : List UInt8} (h : unst l = .ok u) : decE l = tellE u := by simp [decE, uErr_ok h, uOut_ok h]
theorem decF_ok {l u : List UInt8} (h : unst l = .ok u) : decF l = tellF u := by simp [decF, uErr_ok h, uOut_ok h]
theorem unst_not0 {l : List UInt8} {e : Nat} (h : unst l = .error e) : e ≠ 0 := by
  rcases unst_error l.length l e (Nat.le_refl _) h with rfl | rfl <;> decide
theorem decE_error {l : List UInt8} {e : Nat} (h : unst l = .error e) : decE l = e := by
  have := unst_not0 h
  simp [decE, uErr_error h, this]
theorem decF_error {l : List UInt8} {e : Nat} (h : unst l = .error e) : decF l = Fr.none := by
  have := unst_not0 h
  simp [decF, uErr_error h, this]

theorem fits_byte (n : Nat) (h : n < 256) : (UInt8.ofNat n).toNat = n := by simp; omega

theorem sayF_plain (f : Fr) (hf : f.Fits) (h : f.right = true) : sayF f.plain = f := by
  obtain ⟨_, _, hq, hc, _⟩ := rightB_iff.1 h
  have e1 := fits_byte _ hf.a
  have e2 := fits_byte _ hf.k
  have e3 := fits_byte _ hf.s
  have e4 := fits_byte (f.q + 2 * f.c) (by omega)
  have h5 : (f.q + 2 * f.c) % 2 = f.q := by omega
  have h6 : (f.q + 2 * f.c) / 2 = f.c := by omega
  cases f with
  | mk a k s q c b =>
    simp only [Fr.plain, plainB, sayF, List.getD_cons_zero, List.getD_cons_succ, List.drop_succ_cons, List.drop_zero] at *
    rw [e1, e2, e3, e4, h5, h6]
theorem sayN_plain (f : Fr) (h : f.right = true) : sayN f.plain = f.b.length := by
  have := right_le h
  show (UInt8.ofNat f.b.length).toNat = f.b.length
  exact fits_byte _ (by omega)

/-- What is encoded is decoded. -/
theorem tellE_inner (f : Fr) (hf : f.Fits) (h : f.right = true) : tellE f.inner = 0 := by
  have h1 := inner_length f
  have h2 : agrees f.plain = true := by simp [agrees, sayF_plain f hf h, sayN_plain f h, h]
  unfold tellE
  rw [if_neg (by omega), inner_valid, inner_plain, h2]
  simp
theorem decE_mid (f : Fr) (hf : f.Fits) (h : f.right = true) : decE f.mid = 0 := by rw [decE_ok (mid_unst f), tellE_inner f hf h]
theorem decF_mid (f : Fr) (hf : f.Fits) (h : f.right = true) : decF f.mid = f := by
  rw [decF_ok (mid_unst f), tellF, if_pos (tellE_inner f hf h), inner_plain, sayF_plain f hf h]

/-- With the byte that ends it: an error. -/
theorem decE_flag (f : Fr) : decE (f.mid ++ [126]) = 3 := by
  apply decE_error
  rw [Fr.mid, unst_stf_append, unst_flag]
  rfl
/-- Cut off ahead of the seventh byte. -/
theorem decE_cut (f : Fr) (k : Nat) (hk : k < 7) : decE (f.mid.take k) = 2 := by
  have hl := mid_ge f
  cases h : unst (f.mid.take k) with
  | ok u =>
    have := unst_length _ _ h
    rw [List.length_take] at this
    rw [decE_ok h, tellE, if_pos (by omega)]
  | error e =>
    rw [decE_error h]
    rcases stf_cut f.inner k (by show k ≤ f.mid.length; omega) with ⟨j, _, h1, _⟩ | ⟨j, _, _, h1, _⟩
    · have h2 : unst (f.mid.take k) = .ok (f.inner.take j) := (congrArg unst h1).trans (unst_stf _)
      rw [h] at h2
      cases h2
    · have h2 : unst (f.mid.take k) = .error 2 := (congrArg unst h1).trans (by rw [unst_stf_append, unst_end]; rfl)
      rw [h] at h2
      cases h2
      rfl
theorem decE_nil : decE [] = 2 := by rw [decE_ok unst_nil]; rfl

end Go.Proofs.YtalolefggihloaaDoor
