/-
  What layer 9's laws share: steps in memory, a step in a box, two polls.
-/
import Derived.Test.YtkghbdikbbeoaaaPolS
import Derived.Test.YtkghbdikbbeoaaaFOwnU
namespace Go.Proofs.Ytkghbdikbbeoaaa
set_option linter.unusedVariables false
set_option linter.unusedSimpArgs false
open Go.RowKit

structure St9 where
  k : Int
  a : Nat
  t : Int
def Steps9 (w : World) (P : Option Addr) (ss : List St9) : Prop :=
  ∀ (i : Nat) (s : St9), ss[i]? = some s → ∃ b o, P = some ⟨b, o, none⟩ ∧ w.cell? ⟨b, o + i * 3, none⟩ = some (.int .i64 s.k) ∧ w.cell? ⟨b, o + i * 3 + 1, none⟩ = some (.int .u8 (s.a : Int)) ∧ w.cell? ⟨b, o + i * 3 + 2, none⟩ = some (.int .i64 s.t) ∧ s.a < 256 ∧ I64 s.t
theorem Steps9.at {w x : World} {P : Option Addr} {ss : List St9} (h : Steps9 w P ss) (hb : Below w.heap.size w x) (i : Nat) (hi : i < ss.length) :
    ∃ b o, P = some ⟨b, o, none⟩ ∧ x.cell? ⟨b, o + i * 3, none⟩ = some (.int .i64 ss[i].k) ∧ x.cell? ⟨b, o + i * 3 + 1, none⟩ = some (.int .u8 (ss[i].a : Int)) ∧ x.cell? ⟨b, o + i * 3 + 2, none⟩ = some (.int .i64 ss[i].t) ∧ ss[i].a < 256 ∧ I64 ss[i].t := by
  obtain ⟨b, o, h1, h2, h3, h4, h5, h6⟩ := h i _ (List.getElem?_eq_getElem hi)
  exact ⟨b, o, h1, (hb.cell (p := ⟨b, _, none⟩) (World.block_lt_of_cell? _ _ h2)).trans h2, (hb.cell (p := ⟨b, _, none⟩) (World.block_lt_of_cell? _ _ h3)).trans h3, (hb.cell (p := ⟨b, _, none⟩) (World.block_lt_of_cell? _ _ h4)).trans h4, h5, h6⟩
/-- A step in a box. -/
def Bx9 (w : World) (X : Nat) (s : St9) : Prop := w.heap[X]? = some (.cells #[.int .i64 s.k, .int .u8 (s.a : Int), .int .i64 s.t] 30 (0, 0))
theorem Bx9.lt {w : World} {X : Nat} {s : St9} (h : Bx9 w X s) : X < w.heap.size := (Array.getElem?_eq_some_iff.1 h).1
theorem Bx9.step {w y : World} {X : Nat} {s : St9} (h : Bx9 w X s) (hb : Below w.heap.size w y) : Bx9 y X s := (hb.block X h.lt).trans h
theorem Bx9.cr {w y : World} {L U X : Nat} {s : St9} (h : Bx9 w X s) (hc : Cr L U w y) (hX : U ≤ X) : Bx9 y X s := (hc.block X h.lt (.inr hX)).trans h
theorem Bx9.cells {w : World} {X : Nat} {s : St9} (h : Bx9 w X s) : w.cell? ⟨X, 0, none⟩ = some (.int .i64 s.k) ∧ w.cell? ⟨X, 1, none⟩ = some (.int .u8 (s.a : Int)) ∧ w.cell? ⟨X, 2, none⟩ = some (.int .i64 s.t) := by
  unfold Bx9 at h
  refine ⟨?_, ?_, ?_⟩ <;> simp [World.cell?, h]
/-- The first forty of the bytes of an argument. -/
theorem min40 (n : Nat) : ∃ p, p ≤ 40 ∧ p ≤ n ∧ p = min n 40 ∧ (if (40 : Int) < (n : Int) then (40 : Int) else (n : Int)) = (p : Int) := by
  by_cases h : (40 : Int) < (n : Int)
  · exact ⟨40, by omega, by omega, by omega, by rw [if_pos h]; rfl⟩
  · exact ⟨n, by omega, by omega, by omega, by rw [if_neg h]⟩
theorem and31 (n : Int) : ∃ a : Nat, a ≤ 31 ∧ bits .and .i64 n 31 = (a : Int) := by
  have hm : (BitVec.ofInt 64 31).toNat = 2 ^ 5 - 1 := by decide
  have key : (BitVec.ofInt 64 n &&& BitVec.ofInt 64 31).toNat = (n % ((2 ^ 64 : Nat) : Int)).toNat % 2 ^ 5 := by
    rw [BitVec.toNat_and, BitVec.toNat_ofInt, hm, Nat.and_two_pow_sub_one_eq_mod]
  refine ⟨(n % ((2 ^ 64 : Nat) : Int)).toNat % 2 ^ 5, by omega, ?_⟩
  show IntKind.i64.wrap ((BitVec.ofInt 64 n &&& BitVec.ofInt 64 31).toNat : Nat) = _
  rw [key, IntKind.wrap_i64]
  omega
section
variable {Pl : World → Nat → Nat → Nat → Po → Prop}
/-- Two polls, one behind the other. -/
structure Two (Pl : World → Nat → Nat → Nat → Po → Prop) (w : World) (L U D V E : Nat) (p q : Po) (x : World) : Prop where
  a : Lp Pl w L U D p x
  b : Lp Pl w U V E q x
theorem Two.step {w x y : World} {L U D V E : Nat} {p q : Po} (PC : PolCond Pl) (h : Two Pl w L U D V E p q x) (hb : Below x.heap.size x y) : Two Pl w L U D V E p q y := ⟨h.a.step PC hb, h.b.step PC hb⟩
theorem Two.one {w x y : World} {L U D V E : Nat} {p q p' : Po} (PC : PolCond Pl) (h : Two Pl w L U D V E p q x) (h1 : Lp Pl w L U D p' y) (hc : Cr L U x y) : Two Pl w L U D V E p' q y :=
  ⟨h1, h.b.cr PC hc (.inr (Nat.le_refl _)) h.a.le⟩
theorem Two.other {w x y : World} {L U D V E : Nat} {p q q' : Po} (PC : PolCond Pl) (h : Two Pl w L U D V E p q x) (h1 : Lp Pl w U V E q' y) (hc : Cr U V x y) : Two Pl w L U D V E p q' y :=
  ⟨h.a.cr PC hc (.inl (Nat.le_refl _)) h.b.le, h1⟩
theorem Two.far {w x y : World} {L U D V E g : Nat} {p q : Po} (PC : PolCond Pl) (h : Two Pl w L U D V E p q x) (hc : Ch [g] x y) (hg : V ≤ g) : Two Pl w L U D V E p q y := by
  have hc' : Cr V (g + 1) x y := ⟨hc.os, hc.tape, hc.output, hc.size, fun k hk hb => hc.block k hk (by simp; omega)⟩
  have h1 := h.a.lu
  have h2 := h.b.lu
  have h3 := h.a.le
  exact ⟨h.a.cr PC hc' (.inl h2) (by omega), h.b.cr PC hc' (.inl (Nat.le_refl _)) (by omega)⟩
end

/-- What Addrs told, in a row of one's own. -/
structure Al9 (y : World) (B n : Nat) (A : Option Addr) (c : Nat) (bs : List UInt8) : Prop where
  own : y.ownsRow B 5 1 (.slice A n c) n (bcs bs)
  len : bs.length = n
theorem Al9.step {w y : World} {B n c : Nat} {A : Option Addr} {bs : List UInt8} (h : Al9 w B n A c bs) (hb : Below w.heap.size w y) : Al9 y B n A c bs := ⟨own_ft (B := 0) (T := []) h.own (Ft.of_below hb) (by simp), h.len⟩
theorem Al9.cr {w y : World} {L U B n c : Nat} {A : Option Addr} {bs : List UInt8} (h : Al9 w B n A c bs) (hc : Cr L U w y) (hB : U ≤ B) : Al9 y B n A c bs := ⟨hc.own h.own hB, h.len⟩
theorem Al9.cap {w : World} {B n c : Nat} {A : Option Addr} {bs : List UInt8} (h : Al9 w B n A c bs) : n ≤ c ∧ c ≤ 9223372036854775807 := by
  rcases h.own.2 with ⟨hh, h0⟩ | ⟨_, _, _, hh, _, _, h3, h4, _⟩
  · injection hh with _ h5 h6; omega
  · injection hh with _ _ h6; unfold maxLen at h4; omega
theorem Al9.at {w : World} {B n c : Nat} {A : Option Addr} {bs : List UInt8} (h : Al9 w B n A c bs) (k : Nat) (hk : k < n) : ∃ g, A = some ⟨g, 0, none⟩ ∧ B ≤ g ∧ w.cell? ⟨g, k, none⟩ = some (.int .u8 ((bs[k]'(by rw [h.len]; exact hk)).toNat : Int)) := by
  rcases h.own.2 with ⟨_, h0⟩ | ⟨g, cap, cur, hv, hb, hh, _⟩
  · omega
  · injection hv with hA _ hc
    subst hA
    exact ⟨g, rfl, hb, by rw [h.own.cellAt k (by omega), bcs_get bs k (by rw [h.len]; exact hk)]⟩
theorem Al9.low {w y : World} {B B2 n c : Nat} {A : Option Addr} {bs : List UInt8} (h : Al9 w B n A c bs) (hA : ∀ g, A = some ⟨g, 0, none⟩ → g < B2) (hb : ∀ k, k < B2 → y.heap[k]? = w.heap[k]?) : Al9 y B n A c bs := by
  refine ⟨⟨h.own.1, ?_⟩, h.len⟩
  rcases h.own.2 with hn | ⟨g, cap, cur, hv, h1, hh, r⟩
  · exact .inl hn
  · injection hv with hA2 hn2 hc2
    exact .inr ⟨g, cap, cur, by rw [hA2, hc2], h1, (hb g (hA g hA2)).trans hh, r⟩
theorem Al9.lt {w : World} {B n c : Nat} {A : Option Addr} {bs : List UInt8} (h : Al9 w B n A c bs) : ∀ g, A = some ⟨g, 0, none⟩ → g < w.heap.size := by
  intro g hA
  rcases h.own.2 with ⟨hv, _⟩ | ⟨g', cap, cur, hv, h1, hh, r⟩
  · rw [hA] at hv; cases hv
  · rw [hA] at hv
    injection hv with hA2
    injection hA2 with hA2
    injection hA2 with hg
    subst hg
    exact (Array.getElem?_eq_some_iff.1 hh).1
/-- .. read as numbers. -/
theorem Al9.num {w : World} {B n c : Nat} {A : Option Addr} {p : Po} (hok : p.Ok) (h : Al9 w B n A c p.bytes) (k : Nat) (hk : k < n) : ∃ g a, A = some ⟨g, 0, none⟩ ∧ B ≤ g ∧ w.cell? ⟨g, k, none⟩ = some (.int .u8 ((a : Nat) : Int)) ∧ p.row[k]? = some a := by
  obtain ⟨g, h1, h2, h3⟩ := h.at k hk
  have hl : k < p.l.length := by rw [← bytes_len p, h.len]; exact hk
  obtain ⟨h4, h5⟩ := bytes_at hok hl
  rw [h5] at h3
  exact ⟨g, _, h1, h2, h3, row_pe hl⟩
theorem Al9.numo {w : World} {B n c : Nat} {A : Option Addr} {bs : List UInt8} {R : List Nat} (h : Al9 w B n A c bs) (hR : bs.map UInt8.toNat = R) (k : Nat) (hk : k < n) : ∃ g a, A = some ⟨g, 0, none⟩ ∧ w.cell? ⟨g, k, none⟩ = some (.int .u8 ((a : Nat) : Int)) ∧ R[k]? = some a := by
  obtain ⟨g, h1, h2, h3⟩ := h.at k hk
  refine ⟨g, _, h1, h3, ?_⟩
  rw [← hR, List.getElem?_map, List.getElem?_eq_getElem (by rw [h.len]; exact hk)]
  rfl
theorem Lp.low {Pl : World → Nat → Nat → Nat → Po → Prop} {w x y : World} {L U D B2 : Nat} {p : Po} (PC : PolCond Pl) (h : Lp Pl w L U D p x) (hU : U ≤ B2) (hb : Below B2 x y) : Lp Pl w L U D p y := by
  have h1 := h.le
  have h2 := h.lu
  have h3 := hb.size
  have h4 := h.us
  exact ⟨PC.keep h.pl (fun k _ k2 => hb.block k (by omega)), h.ok, h.below.trans (hb.mono (by omega)), h.le, h.lu, by omega⟩
theorem take_mem {R : List Nat} {i a v : Nat} (h : R[i]? = some a) : (v ∈ R.take (i + 1)) ↔ (v ∈ R.take i ∨ a = v) := by
  rw [List.take_add_one, h]
  simp [eq_comm]
theorem aliveP_not {p : Po} {a : Nat} (h : a ∉ p.row) : aliveP p a = (p, 6) := by unfold aliveP; rw [findP_not h]
theorem deadP_not {p : Po} {a : Nat} {t : Int} (h : a ∉ p.row) : deadP p a t = (p, 6) := by unfold deadP; rw [findP_not h]
theorem bytes_row {p q : Po} (h : p.row = q.row) : p.bytes = q.bytes := by unfold Po.bytes; rw [h]

/-- A row of times of one's own. -/
structure In9 (T : TypeId) (y : World) (B n : Nat) (A : Option Addr) (c : Nat) (D : List Nat) : Prop where
  own : y.ownsRow B T 1 (.slice A n c) n (D.map fun (d : Nat) => .int .i64 (d : Int))
  len : D.length = n
theorem In9.step {T : TypeId} {w y : World} {B n c : Nat} {A : Option Addr} {D : List Nat} (h : In9 T w B n A c D) (hb : Below w.heap.size w y) : In9 T y B n A c D := ⟨own_ft (B := 0) (T := []) h.own (Ft.of_below hb) (by simp), h.len⟩
theorem In9.cr {T : TypeId} {w y : World} {L U B n c : Nat} {A : Option Addr} {D : List Nat} (h : In9 T w B n A c D) (hc : Cr L U w y) (hB : U ≤ B) : In9 T y B n A c D := ⟨hc.own h.own hB, h.len⟩
theorem In9.cap {T : TypeId} {w : World} {B n c : Nat} {A : Option Addr} {D : List Nat} (h : In9 T w B n A c D) : n ≤ c ∧ c ≤ 9223372036854775807 := by
  rcases h.own.2 with ⟨hh, h0⟩ | ⟨_, _, _, hh, _, _, h3, h4, _⟩
  · injection hh with _ h5 h6; omega
  · injection hh with _ _ h6; unfold maxLen at h4; omega
theorem In9.at {T : TypeId} {w : World} {B n c : Nat} {A : Option Addr} {D : List Nat} (h : In9 T w B n A c D) (k : Nat) (hk : k < n) : ∃ g, A = some ⟨g, 0, none⟩ ∧ w.cell? ⟨g, k, none⟩ = some (.int .i64 ((dl D k : Nat) : Int)) := by
  have hl : k < D.length := by rw [h.len]; exact hk
  rcases h.own.2 with ⟨_, h0⟩ | ⟨g, cap, cur, hv, hb, hh, _⟩
  · omega
  · injection hv with hA _ hc
    subst hA
    refine ⟨g, rfl, ?_⟩
    rw [h.own.cellAt k (by omega), List.getElem?_map, List.getElem?_eq_getElem hl]
    simp [dl, hl]

end Go.Proofs.Ytkghbdikbbeoaaa
