/-
  The landed poll keeps to what the laws' walks of layer 9 want (PolC). It forgets the time of who is alive again: its row is one that is alike.
-/
import Derived.Test.YtkghbdikbbeoaaaPolKd
import Derived.Test.YtkghbdikbbeoaaaPolKe
import Derived.Test.YtkghbdikbbeoaaaPolKf
namespace Go.Proofs.Ytkghbdikbbeoaaa
set_option linter.unusedVariables false
set_option linter.unusedSimpArgs false
open Go.RowKit

/-- q is as p, but for the times of those that are alive. -/
structure Like (p q : Po) : Prop where
  nx : q.nx = p.nx
  row : q.row = p.row
  d : ∀ k, k < p.l.length → (pe q.l k).d = (pe p.l k).d
  t : ∀ k, k < p.l.length → (pe p.l k).d = true → (pe q.l k).t = (pe p.l k).t
theorem Like.refl (p : Po) : Like p p := ⟨rfl, rfl, fun _ _ => rfl, fun _ _ _ => rfl⟩
theorem Like.len {p q : Po} (h : Like p q) : q.l.length = p.l.length := by rw [← row_len, ← row_len, h.row]
theorem Like.a {p q : Po} (h : Like p q) {k : Nat} (hk : k < p.l.length) : (pe q.l k).a = (pe p.l k).a := by
  have h1 := row_pe (p := q) (k := k) (by rw [h.len]; exact hk)
  rw [h.row, row_pe hk] at h1
  injection h1 with h1
  exact h1.symm
theorem findP_row (l : List Pe) (a : Nat) : findP l a = (l.map Pe.a).findIdx? (fun x => x == a) := by
  unfold findP
  rw [List.findIdx?_map]
  rfl
theorem Like.find {p q : Po} (h : Like p q) (a : Nat) : findP q.l a = findP p.l a := by
  rw [findP_row, findP_row]
  have := h.row
  unfold Po.row at this
  rw [this]
theorem Like.due {p q : Po} (h : Like p q) {k : Nat} (hk : k < p.l.length) (now : Int) : (pe q.l k).due now = (pe p.l k).due now := by
  unfold Pe.due
  rw [h.d k hk]
  cases hd : (pe p.l k).d with
  | false => rfl
  | true => rw [h.t k hk hd]
theorem Like.best {p q : Po} (h : Like p q) (now : Int) : ∀ k, k ≤ p.l.length → bestN q.l now k = bestN p.l now k
  | 0, _ => rfl
  | k + 1, hk => by
    have hk' : k < p.l.length := by omega
    rw [kbest_succ, kbest_succ, h.best now k (by omega), h.due hk']
    cases hd : (pe p.l k).due now with
    | false => rfl
    | true =>
      have e : sooner q.l k (bestN p.l now k) = sooner p.l k (bestN p.l now k) := by
        cases hb : bestN p.l now k with
        | none => rfl
        | some b =>
          have hbl := bestN_lt hb
          have hbd := bestN_due hb
          have d1 : (pe p.l k).d = true := by unfold Pe.due at hd; simp at hd; exact hd.1
          have d2 : (pe p.l b).d = true := by unfold Pe.due at hbd; simp at hbd; exact hbd.1
          show decide _ = decide _
          rw [h.t k hk' d1, h.t b (by omega) d2]
      rw [e]
theorem Like.seek {p q : Po} (h : Like p q) (nx : Nat) : ∀ k, seekN q.l nx k = seekN p.l nx k
  | 0 => rfl
  | k + 1 => by
    unfold seekN
    rw [h.seek nx k, h.len]
    by_cases h0 : 0 < p.l.length
    · rw [h.d _ (Nat.mod_lt _ h0)]
    · have hz : p.l.length = 0 := by omega
      have e1 : p.l = [] := List.length_eq_zero_iff.1 hz
      have e2 : q.l = [] := List.length_eq_zero_iff.1 (by rw [h.len]; exact hz)
      rw [e1, e2]
/-- One of both is turned. -/
theorem Like.set {p q : Po} (h : Like p q) {i : Nat} (hi : i < p.l.length) {e f : Pe} (ha : e.a = (pe p.l i).a) (hb : f.a = e.a) (hd : f.d = e.d) (ht : e.d = true → f.t = e.t) : Like { p with l := p.l.set i e } { q with l := q.l.set i f } := by
  have hq : i < q.l.length := by rw [h.len]; exact hi
  refine ⟨h.nx, ?_, fun k hk => ?_, fun k hk hkd => ?_⟩
  · show (q.l.set i f).map Pe.a = (p.l.set i e).map Pe.a
    rw [row_set (by rw [hb, ha, h.a hi]), row_set ha]
    exact h.row
  · show (pe (q.l.set i f) k).d = (pe (p.l.set i e) k).d
    rw [pe_set hi, pe_set hq]
    split
    · exact hd
    · exact h.d k (by simpa using hk)
  · have hk' : k < p.l.length := by simpa using hk
    replace hkd : (pe (p.l.set i e) k).d = true := hkd
    show (pe (q.l.set i f) k).t = (pe (p.l.set i e) k).t
    rw [pe_set hi] at hkd
    rw [pe_set hi, pe_set hq]
    by_cases hik : i = k
    · rw [if_pos hik] at hkd
      rw [if_pos hik, if_pos hik]
      exact ht hkd
    · rw [if_neg hik] at hkd
      rw [if_neg hik, if_neg hik]
      exact h.t k hk' hkd
theorem Like.next {p q : Po} (h : Like p q) (now : Int) : (nextP q now).2 = (nextP p now).2 ∧ Like (nextP p now).1 (nextP q now).1 := by
  unfold nextP
  rw [h.len, h.best now _ (Nat.le_refl _), show seekN q.l q.nx p.l.length = seekN p.l p.nx p.l.length by rw [h.seek, h.nx]]
  cases hb : bestN p.l now p.l.length with
  | some b =>
    have hbl := bestN_lt hb
    have h1 : Like { p with l := p.l.set b { pe p.l b with t := now } } { q with l := q.l.set b { pe q.l b with t := now } } := h.set hbl rfl (h.a hbl) (h.d b hbl) (fun _ => rfl)
    refine ⟨?_, h1⟩
    show ((pe q.l b).a, true) = ((pe p.l b).a, true)
    rw [h.a hbl]
  | none =>
    cases hs : seekN p.l p.nx p.l.length with
    | some i =>
      have hil := seekN_lt hs (Nat.le_refl _)
      refine ⟨?_, ⟨rfl, h.row, h.d, h.t⟩⟩
      show ((pe q.l i).a, true) = ((pe p.l i).a, true)
      rw [h.a hil]
    | none => exact ⟨rfl, h⟩
theorem Like.alive {p q : Po} (h : Like p q) (a : Nat) : (aliveQ q a).2 = (aliveP p a).2 ∧ Like (aliveP p a).1 (aliveQ q a).1 := by
  unfold aliveQ aliveP
  rw [h.find]
  cases hf : findP p.l a with
  | none => exact ⟨rfl, h⟩
  | some i => exact ⟨rfl, h.set (findP_some hf).1 rfl (h.a (findP_some hf).1) rfl (fun hc => by cases hc)⟩
theorem Like.dead {p q : Po} (h : Like p q) (a : Nat) (now : Int) : (deadP q a now).2 = (deadP p a now).2 ∧ Like (deadP p a now).1 (deadP q a now).1 := by
  unfold deadP
  rw [h.find]
  cases hf : findP p.l a with
  | none => exact ⟨rfl, h⟩
  | some i => exact ⟨rfl, h.set (findP_some hf).1 rfl (h.a (findP_some hf).1) rfl (fun _ => rfl)⟩
theorem Like.is {p q : Po} (h : Like p q) (a : Nat) : isP q a = isP p a := by
  unfold isP
  rw [h.find]
  cases hf : findP p.l a with
  | none => rfl
  | some i => show (!_) = (!_); rw [h.d i (findP_some hf).1]
theorem aliveQ_ok {p : Po} (h : p.Ok) (a : Nat) : (aliveQ p a).1.Ok := by
  unfold aliveQ
  split
  · exact h
  · exact h.set rfl ⟨by show _ ≤ (0 : Int); omega, by show (0 : Int) ≤ _; omega⟩

/-- The landed poll. -/
structure Pk (w : World) (L U D : Nat) (p : Po) : Prop where
  ex : ∃ q A g c, Like p q ∧ q.Ok ∧ Ko w L U D q A g c
theorem pol_cond : PolCond Pk where
  keep := by
    intro w w' L U D p h hc
    obtain ⟨q, A, g, c, h1, h2, h3⟩ := h.ex
    refine ⟨q, A, g, c, h1, h2, h3.keep hc ?_⟩
    have hu := h3.us
    have hl := h3.hi
    have hL := h3.lo
    have h4 := hc (U - 1) (by omega) (by omega)
    have h5 : U - 1 < w.heap.size := by omega
    rw [Array.getElem?_eq_getElem h5] at h4
    have := (Array.getElem?_eq_some_iff.1 h4).1
    omega
  lt := by
    intro w L U D p h
    obtain ⟨q, A, g, c, h1, h2, h3⟩ := h.ex
    have h4 := h3.lo
    have h5 := h3.hi
    exact ⟨by omega, h3.us⟩
  new := by
    intro x g n c A l h hn hm hc hmx
    refine (knew_on h hn hm hc hmx).mono ?_
    rintro e y ⟨rfl, h1, h2⟩
    obtain ⟨A', g', c', h3⟩ := h1.ko
    exact ⟨x.heap.size, rfl, ⟨newP l, A', g', c', Like.refl _, newP_ok (by omega), h3⟩, h2⟩
  next := by
    intro x L U D p now h hok hn
    obtain ⟨q, A, g, c, h1, h2, h3⟩ := h.ex
    refine (knext_on h3 h2 hn).mono ?_
    rintro e y ⟨rfl, h4, h5⟩
    obtain ⟨h6, h7⟩ := h1.next now
    rw [h6]
    exact ⟨rfl, ⟨_, A, g, c, h7, nextP_ok h2 hn, h4⟩, h5⟩
  alive := by
    intro x L U D a p h hok
    obtain ⟨q, A, g, c, h1, h2, h3⟩ := h.ex
    refine (kalive_on h3 h2.len).mono ?_
    rintro e y ⟨rfl, h4, h5⟩
    obtain ⟨h6, h7⟩ := h1.alive a
    rw [h6]
    exact ⟨rfl, ⟨_, A, g, c, h7, aliveQ_ok h2 a, h4⟩, h5⟩
  dead := by
    intro x L U D a p now h hok hn
    obtain ⟨q, A, g, c, h1, h2, h3⟩ := h.ex
    refine (kdead_on h3 h2.len).mono ?_
    rintro e y ⟨rfl, h4, h5⟩
    obtain ⟨h6, h7⟩ := h1.dead a now
    rw [h6]
    exact ⟨rfl, ⟨_, A, g, c, h7, deadP_ok h2 a hn, h4⟩, h5⟩
  is := by
    intro x L U D a p h hok
    obtain ⟨q, A, g, c, h1, h2, h3⟩ := h.ex
    refine (kis_on h3 h2.len).mono ?_
    rintro e y ⟨rfl, rfl⟩
    rw [h1.is]
    exact ⟨rfl, Below.refl _ _⟩
  addrs := by
    intro x L U D p h hok
    obtain ⟨q, A, g, c, h1, h2, h3⟩ := h.ex
    refine (kaddrs_on h3 h2).mono ?_
    rintro e y ⟨A', c', rfl, h4, h5⟩
    have e1 : q.bytes = p.bytes := by unfold Po.bytes; rw [h1.row]
    rw [h1.len] at h4 ⊢
    rw [e1] at h4
    exact ⟨A', c', rfl, h4, h5⟩
end Go.Proofs.Ytkghbdikbbeoaaa
