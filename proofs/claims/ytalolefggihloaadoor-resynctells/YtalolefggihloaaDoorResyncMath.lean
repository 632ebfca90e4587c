/-
  Frames out of noise: a decoder that takes bytes one by one; what it tells of parts, of flags, of frames and of what is between them. Nothing of the program is named here.
-/
import Derived.Test.YtalolefggihloaaDoorFrameMath
namespace Go.Proofs.YtalolefggihloaaDoor
set_option linter.unusedVariables false
set_option linter.unusedSimpArgs false
open Go.RowKit

/-- What a decoder knows: the bytes that it holds, whether it waits for the next 7E, how often each error was counted. -/
structure Dc where
  held : List UInt8
  over : Bool
  errs : Nat → Nat
def Dc.zero : Dc := ⟨[], false, fun _ => 0⟩
def bump (f : Nat → Nat) (e : Nat) : Nat → Nat := fun i => if i = e then f i + 1 else f i
theorem bump_same (f : Nat → Nat) (e : Nat) : bump f e e = f e + 1 := by simp [bump]
theorem bump_other (f : Nat → Nat) (e i : Nat) (h : i ≠ e) : bump f e i = f i := by simp [bump, h]

/-- One byte. -/
def Dc.one (d : Dc) (b : UInt8) : Dc × List Fr :=
  if b = 126 then
    if d.over then (⟨[], false, d.errs⟩, [])
    else if d.held = [] then (d, [])
    else if decE d.held = 0 then (⟨[], false, d.errs⟩, [decF d.held])
    else (⟨[], false, bump d.errs (decE d.held)⟩, [])
  else if d.over then (d, [])
  else if d.held.length = 62 then (⟨[], true, bump d.errs 10⟩, [])
  else (⟨d.held ++ [b], false, d.errs⟩, [])
/-- Many. -/
def Dc.feed (d : Dc) : List UInt8 → Dc × List Fr
  | [] => (d, [])
  | b :: l => (((d.one b).1.feed l).1, (d.one b).2 ++ ((d.one b).1.feed l).2)
theorem feed_nil (d : Dc) : d.feed [] = (d, []) := rfl
theorem feed_cons (d : Dc) (b : UInt8) (l : List UInt8) : d.feed (b :: l) = (((d.one b).1.feed l).1, (d.one b).2 ++ ((d.one b).1.feed l).2) := rfl
theorem feed_one (d : Dc) (b : UInt8) : d.feed [b] = d.one b := by simp [Dc.feed]
theorem feed_append : ∀ (a b : List UInt8) (d : Dc), d.feed (a ++ b) = (((d.feed a).1.feed b).1, (d.feed a).2 ++ ((d.feed a).1.feed b).2)
  | [], b, d => by simp [Dc.feed]
  | x :: a, b, d => by
    have h := feed_append a b (d.one x).1
    rw [List.cons_append, feed_cons, feed_cons, h]
    simp
theorem feed_snoc (d : Dc) (a : List UInt8) (b : UInt8) : d.feed (a ++ [b]) = ((((d.feed a).1).one b).1, (d.feed a).2 ++ (((d.feed a).1).one b).2) := by rw [feed_append, feed_one]

/-- What always holds: never more than 62 bytes; none, while it waits; none of them a 7E. -/
structure Dc.Ok (d : Dc) : Prop where
  most : d.held.length ≤ 62
  over : d.over = true → d.held = []
  plain : ∀ b ∈ d.held, b ≠ 126
theorem Ok.zero : Dc.zero.Ok := ⟨by simp [Dc.zero], fun _ => rfl, by simp [Dc.zero]⟩
theorem Dc.Ok.one {d : Dc} (h : d.Ok) (b : UInt8) : (d.one b).1.Ok := by
  unfold Dc.one
  by_cases hb : b = 126
  · rw [if_pos hb]
    split
    · exact ⟨by simp, fun _ => rfl, by simp⟩
    · split
      · exact h
      · split
        · exact ⟨by simp, fun _ => rfl, by simp⟩
        · exact ⟨by simp, fun _ => rfl, by simp⟩
  · rw [if_neg hb]
    split
    · exact h
    · split
      · exact ⟨by simp, fun _ => rfl, by simp⟩
      · have hm := h.most
        refine ⟨by simp; omega, fun hx => by simp at hx, ?_⟩
        intro x hx
        simp at hx
        rcases hx with hx | rfl
        · exact h.plain x hx
        · exact hb
theorem Dc.Ok.feed : ∀ (l : List UInt8) {d : Dc}, d.Ok → (d.feed l).1.Ok
  | [], _, h => h
  | b :: l, _, h => Dc.Ok.feed l (h.one b)

/-- A flag: nothing is held behind it. -/
theorem one_flag (d : Dc) (h : d.Ok) : (d.one 126).1.held = [] ∧ (d.one 126).1.over = false := by
  unfold Dc.one
  rw [if_pos rfl]
  split
  · exact ⟨rfl, rfl⟩
  · split
    · next h1 h2 => exact ⟨h2, by simpa using h1⟩
    · split <;> exact ⟨rfl, rfl⟩

/-- Bytes without a 7E, as long as there is room. -/
theorem feed_room : ∀ (l : List UInt8) (d : Dc), d.over = false → (∀ b ∈ l, b ≠ 126) → d.held.length + l.length ≤ 62 → d.feed l = (⟨d.held ++ l, false, d.errs⟩, [])
  | [], d, ho, _, _ => by
    cases d with
    | mk a o e => simp [Dc.feed] at *; exact ho
  | b :: l, d, ho, hp, hl => by
    have hb := hp b (by simp)
    have h1 : d.one b = (⟨d.held ++ [b], false, d.errs⟩, []) := by
      unfold Dc.one
      rw [if_neg hb, ho]
      simp at hl ⊢
      omega
    rw [feed_cons, h1, feed_room l ⟨d.held ++ [b], false, d.errs⟩ rfl (fun x hx => hp x (by simp [hx])) (by simp at hl ⊢; omega)]
    simp
/-- While it waits. -/
theorem feed_over : ∀ (l : List UInt8) (d : Dc), d.over = true → (∀ b ∈ l, b ≠ 126) → d.feed l = (d, [])
  | [], d, _, _ => rfl
  | b :: l, d, ho, hp => by
    have hb := hp b (by simp)
    have h1 : d.one b = (d, []) := by
      unfold Dc.one
      rw [if_neg hb, ho]
      simp
    rw [feed_cons, h1, feed_over l d ho (fun x hx => hp x (by simp [hx]))]
    rfl
/-- Bytes without a 7E, from nothing on. -/
theorem feed_plain (l : List UInt8) (d : Dc) (hh : d.held = []) (ho : d.over = false) (hp : ∀ b ∈ l, b ≠ 126) :
    d.feed l = if l.length ≤ 62 then (⟨l, false, d.errs⟩, []) else (⟨[], true, bump d.errs 10⟩, []) := by
  by_cases hl : l.length ≤ 62
  · rw [if_pos hl, feed_room l d ho hp (by rw [hh]; simpa using hl), hh]
    rfl
  · rw [if_neg hl]
    have hs : l = l.take 62 ++ (l[62]'(by omega) :: l.drop 63) := by
      conv => lhs; rw [← List.take_append_drop 62 l, List.drop_eq_getElem_cons (by omega)]
    have hp1 : ∀ b ∈ l.take 62, b ≠ 126 := fun b hb => hp b (List.mem_of_mem_take hb)
    have hp2 : ∀ b ∈ l.drop 63, b ≠ 126 := fun b hb => hp b (List.mem_of_mem_drop hb)
    have hb : l[62]'(by omega) ≠ 126 := hp _ (by simp)
    have h1 : d.feed (l.take 62) = (⟨l.take 62, false, d.errs⟩, []) := by
      rw [feed_room _ d ho hp1 (by rw [hh]; simp; omega), hh]
      rfl
    have h2 : (Dc.mk (l.take 62) false d.errs).one (l[62]'(by omega)) = (⟨[], true, bump d.errs 10⟩, []) := by
      unfold Dc.one
      rw [if_neg hb]
      simp
      omega
    rw [hs, feed_append, h1, feed_cons, h2, feed_over _ _ rfl hp2]
    rfl

/-- A right frame, from nothing on: just that frame, and nothing is held. -/
theorem feed_enc (F : Fr) (d : Dc) (hh : d.held = []) (ho : d.over = false) (hf : F.Fits) (hr : F.right = true) : d.feed F.enc = (d, [F]) := by
  have hl : F.mid.length ≤ 62 := by
    have h1 := mid_le F
    have h2 := right_le hr
    omega
  have hne : F.mid ≠ [] := by
    intro h0
    have := mid_ge F
    rw [h0] at this
    simp at this
  have h1 : d.one 126 = (d, []) := by
    unfold Dc.one
    rw [if_pos rfl, ho, if_neg (by simp), if_pos hh]
  have h2 := feed_plain F.mid d hh ho (stf_no_flag _)
  rw [if_pos hl] at h2
  have h3 : (Dc.mk F.mid false d.errs).one 126 = (d, [F]) := by
    unfold Dc.one
    rw [if_pos rfl]
    simp only [Bool.false_eq_true, if_false]
    rw [if_neg hne, if_pos (decE_mid F hf hr), decF_mid F hf hr]
    cases d with
    | mk a o e => simp at hh ho; simp [hh, ho]
  rw [Fr.enc, feed_cons, h1, feed_snoc, h2, h3]
  rfl

/-- How many errors were counted, of the twelve. -/
def total (f : Nat → Nat) : Nat := (List.range 12).foldl (fun n i => n + f i) 0
theorem decE_le (l : List UInt8) : decE l ≤ 4 := by
  unfold decE
  split
  · unfold tellE
    repeat (split <;> try omega)
  · have := uErr_le l
    omega
theorem total_bump (f : Nat → Nat) (e : Nat) (h : e < 12) : total (bump f e) = total f + 1 := by
  unfold total
  simp only [List.range, List.range.loop, List.foldl_cons, List.foldl_nil, bump]
  rcases e with _ | _ | _ | _ | _ | _ | _ | _ | _ | _ | _ | _ | e <;> simp <;> omega

/-- Noise without a 7E that is no frame, and a flag: nothing comes out, one error, if anything was there. -/
theorem feed_noise (l : List UInt8) (d : Dc) (hh : d.held = []) (ho : d.over = false) (hp : ∀ b ∈ l, b ≠ 126) (hd : decE l ≠ 0) :
    (d.feed l).2 = [] ∧ ((d.feed l).1.one 126).2 = [] ∧ total ((d.feed l).1.one 126).1.errs = total d.errs + (if l = [] then 0 else 1) := by
  rw [feed_plain l d hh ho hp]
  by_cases hl : l.length ≤ 62
  · rw [if_pos hl]
    unfold Dc.one
    rw [if_pos rfl]
    simp only [Bool.false_eq_true, if_false]
    by_cases h0 : l = []
    · simp [h0]
    · simp only [h0, if_false, hd]
      exact ⟨trivial, trivial, total_bump _ _ (by have := decE_le l; omega)⟩
  · rw [if_neg hl]
    have h0 : l ≠ [] := by
      intro h0
      rw [h0] at hl
      simp at hl
    unfold Dc.one
    rw [if_pos rfl]
    simp only [if_true, h0, if_false]
    exact ⟨trivial, trivial, total_bump _ _ (by omega)⟩

/-- What comes out is right. -/
theorem decF_right (l : List UInt8) (h : decE l = 0) : (decF l).right = true := by
  unfold decE at h
  unfold decF
  split at h
  · next h0 =>
    rw [if_pos h0, tellF, if_pos h]
    unfold tellE at h
    split at h
    · cases h
    · split at h
      · cases h
      · split at h
        · next ha =>
          unfold agrees at ha
          rw [Bool.and_eq_true] at ha
          exact ha.1
        · cases h
  · next h0 => exact absurd h h0
theorem one_right (d : Dc) (b : UInt8) : ∀ f ∈ (d.one b).2, f.right = true := by
  unfold Dc.one
  repeat' split
  all_goals simp
  next h => exact decF_right _ h
theorem feed_right : ∀ (l : List UInt8) (d : Dc), ∀ f ∈ (d.feed l).2, f.right = true
  | [], _ => by simp [Dc.feed]
  | b :: l, d => by
    intro f hf
    rw [feed_cons] at hf
    simp at hf
    rcases hf with hf | hf
    · exact one_right d b f hf
    · exact feed_right l _ f hf

end Go.Proofs.YtalolefggihloaaDoor
