/-
  What poll's calls must be shown to answer (PolCond: a poll of any form in memory, whose blocks lie in a range); the laws' walks of layer 9 are written over these conditions.
-/
import Derived.Test.YtkghbdikbbeoaaaPolMem
namespace Go.Proofs.Ytkghbdikbbeoaaa
set_option linter.unusedVariables false
set_option linter.unusedSimpArgs false
open Go.RowKit

/-- Only blocks from L on and below U, and new ones, have turned. -/
structure Cr (L U : Nat) (w w' : World) : Prop where
  os : w'.os = w.os
  tape : w'.tape = w.tape
  output : w'.output = w.output
  size : w.heap.size ≤ w'.heap.size
  block : ∀ k, k < w.heap.size → (k < L ∨ U ≤ k) → w'.heap[k]? = w.heap[k]?
theorem Cr.refl (L U : Nat) (w : World) : Cr L U w w := ⟨rfl, rfl, rfl, Nat.le_refl _, fun _ _ _ => rfl⟩
theorem Cr.trans {L U : Nat} {a b c : World} (h : Cr L U a b) (k : Cr L U b c) : Cr L U a c :=
  ⟨k.os.trans h.os, k.tape.trans h.tape, k.output.trans h.output, Nat.le_trans h.size k.size, fun i hi hb => (k.block i (Nat.lt_of_lt_of_le hi h.size) hb).trans (h.block i hi hb)⟩
theorem Cr.of_below {L U : Nat} {w w' : World} (h : Below w.heap.size w w') : Cr L U w w' := ⟨h.os, h.tape, h.output, h.size, fun k hk _ => h.block k hk⟩
theorem Cr.below {L U : Nat} {w w' : World} (h : Cr L U w w') (hL : L ≤ w.heap.size) : Below L w w' := ⟨h.os, h.tape, h.output, h.size, fun k hk => h.block k (by omega) (.inl hk)⟩
theorem Cr.mono {L U L' U' : Nat} {w w' : World} (h : Cr L U w w') (h1 : L' ≤ L) (h2 : U ≤ U') : Cr L' U' w w' := ⟨h.os, h.tape, h.output, h.size, fun k hk hb => h.block k hk (by omega)⟩
theorem Cr.own {L U B n size : Nat} {w w' : World} {v : Value} {xs : List Value} {e : TypeId} (h : Cr L U w w') (ho : w.ownsRow B e size v n xs) (hB : U ≤ B) : w'.ownsRow B e size v n xs := by
  refine ⟨ho.1, ?_⟩
  rcases ho.2 with hn | ⟨g, cap, cur, rfl, hb, hh, r⟩
  · exact .inl hn
  · exact .inr ⟨g, cap, cur, rfl, hb, (h.block g (Array.getElem?_eq_some_iff.1 hh).1 (.inr (by omega))).trans hh, r⟩
/-- What the calls answer: Pl w L U D p: in w a poll p lies at D, its blocks from L on and below U. -/
structure PolCond (Pl : World → Nat → Nat → Nat → Po → Prop) : Prop where
  keep : ∀ {w w' : World} {L U D : Nat} {p : Po}, Pl w L U D p → (∀ k, L ≤ k → k < U → w'.heap[k]? = w.heap[k]?) → Pl w' L U D p
  lt : ∀ {w : World} {L U D : Nat} {p : Po}, Pl w L U D p → L ≤ U ∧ U ≤ w.heap.size
  new : ∀ {x : World} {g n c : Nat} {A : Option Addr} {l : List UInt8}, Holds x g A (bcs l) → l.length = n → n ≤ 40 → n ≤ c → c ≤ 9223372036854775807 →
    Calls Try.prog 11 #[.slice A n c] x fun e y => ∃ D, e = .returned (.pointer (some ⟨D, 0, none⟩)) ∧ Pl y x.heap.size y.heap.size D (newP l) ∧ Below x.heap.size x y
  next : ∀ {x : World} {L U D : Nat} {p : Po} {now : Int}, Pl x L U D p → p.Ok → I64 now →
    Calls Try.prog 13 #[.pointer (some ⟨D, 0, none⟩), .int .i64 now] x fun e y => e = .returned (.tuple #[.int .u8 ((nextP p now).2.1 : Int), .bool (nextP p now).2.2]) ∧ Pl y L U D (nextP p now).1 ∧ Cr L U x y
  alive : ∀ {x : World} {L U D a : Nat} {p : Po}, Pl x L U D p → p.Ok →
    Calls Try.prog 17 #[.pointer (some ⟨D, 0, none⟩), .int .u8 (a : Int)] x fun e y => e = .returned (.int .i64 (aliveP p a).2) ∧ Pl y L U D (aliveP p a).1 ∧ Cr L U x y
  dead : ∀ {x : World} {L U D a : Nat} {p : Po} {now : Int}, Pl x L U D p → p.Ok → I64 now →
    Calls Try.prog 15 #[.pointer (some ⟨D, 0, none⟩), .int .u8 (a : Int), .int .i64 now] x fun e y => e = .returned (.int .i64 (deadP p a now).2) ∧ Pl y L U D (deadP p a now).1 ∧ Cr L U x y
  is : ∀ {x : World} {L U D a : Nat} {p : Po}, Pl x L U D p → p.Ok →
    Calls Try.prog 19 #[.pointer (some ⟨D, 0, none⟩), .int .u8 (a : Int)] x fun e y => e = .returned (.bool (isP p a)) ∧ Below x.heap.size x y
  addrs : ∀ {x : World} {L U D : Nat} {p : Po}, Pl x L U D p → p.Ok →
    Calls Try.prog 21 #[.pointer (some ⟨D, 0, none⟩)] x fun e y => ∃ A c, e = .returned (.slice A p.l.length c) ∧ y.ownsRow x.heap.size 5 1 (.slice A p.l.length c) p.l.length (bcs p.bytes) ∧ Below x.heap.size x y

/-- A poll in a call that began at w. -/
structure Lp (Pl : World → Nat → Nat → Nat → Po → Prop) (w : World) (L U D : Nat) (p : Po) (x : World) : Prop where
  pl : Pl x L U D p
  ok : p.Ok
  below : Below w.heap.size w x
  le : w.heap.size ≤ L
  lu : L ≤ U
  us : U ≤ x.heap.size
variable {Pl : World → Nat → Nat → Nat → Po → Prop}
theorem Lp.cr {w x y : World} {L U L' U' D : Nat} {p : Po} (PC : PolCond Pl) (h : Lp Pl w L U D p x) (hc : Cr L' U' x y) (h1 : U ≤ L' ∨ U' ≤ L) (h2 : w.heap.size ≤ L') : Lp Pl w L U D p y := by
  have hu := h.us
  refine ⟨PC.keep h.pl (fun k k1 k2 => hc.block k (by omega) (by omega)), h.ok, h.below.trans ?_, h.le, h.lu, Nat.le_trans hu hc.size⟩
  exact ⟨hc.os, hc.tape, hc.output, hc.size, fun k hk => hc.block k (by have := h.below.size; omega) (.inl (by omega))⟩
theorem Lp.step {w x y : World} {L U D : Nat} {p : Po} (PC : PolCond Pl) (h : Lp Pl w L U D p x) (hb : Below x.heap.size x y) : Lp Pl w L U D p y :=
  h.cr PC (L' := U) (U' := U) (Cr.of_below hb) (.inl (Nat.le_refl _)) (Nat.le_trans h.le h.lu)
theorem PolCond.newL {w x : World} {g n c : Nat} {A : Option Addr} {l : List UInt8} (PC : PolCond Pl) (hb : Below w.heap.size w x) (h : Holds x g A (bcs l)) (hn : l.length = n) (hm : n ≤ 40) (hc : n ≤ c) (hmx : c ≤ 9223372036854775807) :
    Calls Try.prog 11 #[.slice A n c] x fun e y => ∃ D, e = .returned (.pointer (some ⟨D, 0, none⟩)) ∧ Lp Pl w x.heap.size y.heap.size D (newP l) y ∧ Below x.heap.size x y := by
  refine (PC.new h hn hm hc hmx).mono ?_
  rintro e y ⟨D, rfl, h1, h2⟩
  exact ⟨D, rfl, ⟨h1, newP_ok (by omega), hb.trans (h2.mono hb.size), hb.size, h2.size, Nat.le_refl _⟩, h2⟩
theorem Lp.turn {w x y : World} {L U D : Nat} {p q : Po} (h : Lp Pl w L U D p x) (hp : Pl y L U D q) (hq : q.Ok) (hc : Cr L U x y) : Lp Pl w L U D q y :=
  ⟨hp, hq, h.below.trans ⟨hc.os, hc.tape, hc.output, hc.size, fun k hk => hc.block k (by have := h.below.size; omega) (.inl (by have := h.le; omega))⟩, h.le, h.lu, Nat.le_trans h.us hc.size⟩
theorem PolCond.nextL {w x : World} {L U D : Nat} {p : Po} {now : Int} (PC : PolCond Pl) (h : Lp Pl w L U D p x) (hn : I64 now) :
    Calls Try.prog 13 #[.pointer (some ⟨D, 0, none⟩), .int .i64 now] x fun e y => e = .returned (.tuple #[.int .u8 ((nextP p now).2.1 : Int), .bool (nextP p now).2.2]) ∧ Lp Pl w L U D (nextP p now).1 y ∧ Cr L U x y := by
  refine (PC.next h.pl h.ok hn).mono ?_
  rintro e y ⟨rfl, h1, h2⟩
  exact ⟨rfl, h.turn h1 (nextP_ok h.ok hn) h2, h2⟩
theorem PolCond.aliveL {w x : World} {L U D a : Nat} {p : Po} (PC : PolCond Pl) (h : Lp Pl w L U D p x) :
    Calls Try.prog 17 #[.pointer (some ⟨D, 0, none⟩), .int .u8 (a : Int)] x fun e y => e = .returned (.int .i64 (aliveP p a).2) ∧ Lp Pl w L U D (aliveP p a).1 y ∧ Cr L U x y := by
  refine (PC.alive h.pl h.ok).mono ?_
  rintro e y ⟨rfl, h1, h2⟩
  exact ⟨rfl, h.turn h1 (aliveP_ok h.ok a) h2, h2⟩
theorem PolCond.deadL {w x : World} {L U D a : Nat} {p : Po} {now : Int} (PC : PolCond Pl) (h : Lp Pl w L U D p x) (hn : I64 now) :
    Calls Try.prog 15 #[.pointer (some ⟨D, 0, none⟩), .int .u8 (a : Int), .int .i64 now] x fun e y => e = .returned (.int .i64 (deadP p a now).2) ∧ Lp Pl w L U D (deadP p a now).1 y ∧ Cr L U x y := by
  refine (PC.dead h.pl h.ok hn).mono ?_
  rintro e y ⟨rfl, h1, h2⟩
  exact ⟨rfl, h.turn h1 (deadP_ok h.ok a hn) h2, h2⟩
theorem PolCond.isL {w x : World} {L U D a : Nat} {p : Po} (PC : PolCond Pl) (h : Lp Pl w L U D p x) :
    Calls Try.prog 19 #[.pointer (some ⟨D, 0, none⟩), .int .u8 (a : Int)] x fun e y => e = .returned (.bool (isP p a)) ∧ Lp Pl w L U D p y ∧ Below x.heap.size x y := by
  refine (PC.is h.pl h.ok).mono ?_
  rintro e y ⟨rfl, h1⟩
  exact ⟨rfl, h.step PC h1, h1⟩
theorem PolCond.addrsL {w x : World} {L U D : Nat} {p : Po} (PC : PolCond Pl) (h : Lp Pl w L U D p x) :
    Calls Try.prog 21 #[.pointer (some ⟨D, 0, none⟩)] x fun e y => ∃ A c, e = .returned (.slice A p.l.length c) ∧ y.ownsRow x.heap.size 5 1 (.slice A p.l.length c) p.l.length (bcs p.bytes) ∧ Lp Pl w L U D p y ∧ Below x.heap.size x y := by
  refine (PC.addrs h.pl h.ok).mono ?_
  rintro e y ⟨A, c, rfl, h1, h2⟩
  exact ⟨A, c, rfl, h1, h.step PC h2, h2⟩
theorem bytes_len (p : Po) : p.bytes.length = p.l.length := by simp [Po.bytes, Po.row]
theorem bytes_at {p : Po} (hok : p.Ok) {i : Nat} (hi : i < p.l.length) : ∃ h : i < p.bytes.length, (p.bytes[i]'h).toNat = (pe p.l i).a := by
  have hb : i < p.bytes.length := by rw [bytes_len]; exact hi
  refine ⟨hb, ?_⟩
  have h1 : (pe p.l i).a ≤ 31 := hok.hi _ (List.mem_map_of_mem (pe_mem hi))
  have h2 : p.bytes[i]'hb = UInt8.ofNat (pe p.l i).a := by simp [Po.bytes, Po.row, pe_eq hi]
  rw [h2]
  simp
  omega

end Go.Proofs.Ytkghbdikbbeoaaa
