/-
  octets.Read, and the methods of its Reader: their contracts.
-/
import Derived.Test.YtdcnmbglbopgdaaFJoin
namespace Go.Proofs.Ytdcnmbglbopgdaa
set_option linter.unusedVariables false
set_option linter.unusedSimpArgs false
open Go.RowKit

/-- Behind a call that makes one copy of the bytes l: it lies in a block of its own, G. -/
def CopyPost (w : World) (l : List UInt8) (e : Ending) (w' : World) : Prop :=
  ∃ G, w.heap.size ≤ G ∧ e = .returned (.slice (some ⟨G, 0, none⟩) l.length l.length) ∧ Row w' G l ∧ Below w.heap.size w w'

theorem join_one (g : Nat) (A : Option Addr) (c : Nat) (l : List UInt8) (w : World) (h : Holds w g A (bcs l)) (hl : l.length ≤ 1099511627776) :
    Calls Try.prog 69 #[.slice (some ⟨w.heap.size, 0, none⟩) 1 1] (w.alloc (.cells #[.slice A l.length c] 34)) (CopyPost w l) := by
  have hp : PartsAt (w.alloc (.cells #[.slice A l.length c] 34)) (some ⟨w.heap.size, 0, none⟩) [l] := by
    intro k l' hk
    match k, hk with
    | 0, hk =>
      simp at hk
      subst hk
      exact ⟨w.heap.size, 0, g, A, c, rfl, by simp, h.keep ((Ch.refl [] w).alloc _) (by simp)⟩
  have hj := join_any (some ⟨w.heap.size, 0, none⟩) 1 [l] (w.alloc (.cells #[.slice A l.length c] 34)) hp (by simp) (by simpa using hl)
  refine hj.mono fun e w' ⟨he, hm⟩ => ?_
  have hrow := hm.row
  have hb := hm.below
  simp only [List.flatten_cons, List.flatten_nil, List.append_nil] at he hrow
  have hz : (w.alloc (.cells #[.slice A l.length c] 34)).heap.size = w.heap.size + 1 := by simp
  rw [hz] at he hrow hb
  exact ⟨w.heap.size + 1, by omega, he, hrow, ((Below.refl w.heap.size w).alloc (Nat.le_refl _) _).trans (hb.mono (by omega))⟩

theorem join_cut (g : Nat) (A : Option Addr) (n c : Nat) (l : List UInt8) (w : World) (h : Holds w g A (bcs l)) (hl : n ≤ 1099511627776) (hn : l.length = n) :
    Calls Try.prog 69 #[.slice (some ⟨w.heap.size, 0, none⟩) 1 1] (w.alloc (.cells #[.slice A n c] 34)) (CopyPost w l) := by
  subst hn
  exact join_one g A c l w h hl

/-- A reader, in block R; what is left is l; its bytes lie in block g. -/
structure Rdr (w : World) (R g : Nat) (l : List UInt8) : Prop where
  cell : ∃ A c, w.heap[R]? = some (.cells #[.slice A l.length c] 141 (0, 0)) ∧ l.length ≤ c ∧ c ≤ 1099511627776 ∧ Holds w g A (bcs l)
  ne : R ≠ g
  glt : g < w.heap.size

theorem Rdr.lt {w : World} {R g : Nat} {l : List UInt8} (h : Rdr w R g l) : R < w.heap.size := by
  obtain ⟨A, c, h1, _⟩ := h.cell
  exact (Array.getElem?_eq_some_iff.1 h1).1
theorem Rdr.keep {F : List Nat} {w w' : World} {R g : Nat} {l : List UInt8} (h : Rdr w R g l) (hc : Ch F w w') (hR : R ∉ F) (hg : g ∉ F) : Rdr w' R g l := by
  obtain ⟨A, c, h1, h2, h3, h4⟩ := h.cell
  exact ⟨⟨A, c, (hc.block R h.lt hR).trans h1, h2, h3, h4.keep hc (fun _ => hg)⟩, h.ne, Nat.lt_of_lt_of_le h.glt hc.size⟩

def ReadPost (w : World) (l : List UInt8) (e : Ending) (w' : World) : Prop :=
  ∃ R g, w.heap.size ≤ R ∧ w.heap.size ≤ g ∧ e = .returned (.pointer (some ⟨R, 0, none⟩)) ∧ Rdr w' R g l ∧ Below w.heap.size w w'

set_option maxHeartbeats 400000 in
theorem read_any (g : Nat) (A : Option Addr) (c : Nat) (l : List UInt8) (w : World) (h : Holds w g A (bcs l)) (hl : l.length ≤ 1099511627776) :
    Calls Try.prog 60 #[.slice A l.length c] w (ReadPost w l) := by
  have HH := Lib.hid h
  clear h
  go_enter Try.func60, Try.ntmps60
  go_wp2_with (go_at_call 69; refine (join_one g A c l _ HH.out hl).mono ?_; rintro e w1 ⟨G, hG, rfl, hrow, hb⟩)
  go_ret
  have hGl := hrow.lt
  refine ⟨w1.heap.size, G, hb.size, hG, rfl, ⟨⟨_, _, heap_alloc_new w1 _, Nat.le_refl _, hl, (hrow.keep ((Ch.refl [] w1).alloc _) (by simp)).holds⟩, by omega, by simp; omega⟩, hb.alloc hb.size _⟩

theorem Rdr.open_ {w : World} {R g : Nat} {l : List UInt8} (h : Rdr w R g l) : ∃ A c, w.cell? ⟨R, 0, none⟩ = some (.slice A l.length c) ∧ w.frozen? ⟨R, 0, none⟩ = false ∧ l.length ≤ c ∧ c ≤ 1099511627776 ∧ Holds w g A (bcs l) := by
  obtain ⟨A, c, h1, h2, h3, h4⟩ := h.cell
  exact ⟨A, c, by simp [World.cell?, h1], by simp [World.frozen?, h1], h2, h3, h4⟩

/-- What is left is written anew. -/
theorem Rdr.set {w : World} {R g : Nat} {l l' : List UInt8} (h : Rdr w R g l) {A : Option Addr} {c : Nat} (hc : l'.length ≤ c) (hc' : c ≤ 1099511627776) (hh : Holds w g A (bcs l')) : Rdr (w.setCell ⟨R, 0, none⟩ (.slice A l'.length c)) R g l' := by
  obtain ⟨A0, c0, h1, _⟩ := h.cell
  refine ⟨⟨A, c, ?_, hc, hc', hh.keep (F := [R]) ((Ch.refl [R] w).setCell (by simp) _) (by have := h.ne; simp; omega)⟩, h.ne, by simpa [World.setCell] using h.glt⟩
  simp [World.setCell, Array.getElem?_modify, h1]

def TakePost (w : World) (R g : Nat) (l : List UInt8) (n : Nat) (e : Ending) (w' : World) : Prop :=
  ∃ G, w.heap.size ≤ G ∧ e = .returned (.tuple #[.slice (some ⟨G, 0, none⟩) n n, .int .i64 0]) ∧ Row w' G (l.take n) ∧ Rdr w' R g (l.drop n) ∧ Ch [R] w w'

theorem take_close {w w1 : World} {R g n G c' : Nat} {l : List UInt8} {A' : Option Addr} (h : Rdr w R g l) (hb : Below w.heap.size w w1) (hG : w.heap.size ≤ G) (hrow : Row w1 G (l.take n))
    (hd : Holds w g A' (bcs (l.drop n))) (h1 : l.length - n ≤ c') (h2 : c' ≤ 1099511627776) :
    TakePost w R g l n (.returned (.tuple #[.slice (some ⟨G, 0, none⟩) n n, .int .i64 0])) (w1.setCell ⟨R, 0, none⟩ (.slice A' (l.length - n) c')) := by
  have hR := h.lt
  have hg : ∀ o, Holds w g o (bcs l) → (0 < (bcs l).length) → g < w.heap.size := fun o ho hp => (ho hp).1
  obtain ⟨A, c, hc1, hc2, hc3, hc4⟩ := h.cell
  have h' : Rdr w1 R g l := by
    refine ⟨⟨A, c, (hb.block R hR).trans hc1, hc2, hc3, fun hp => (hc4.keep (F := []) (Ch.of_below hb) (by simp)) hp⟩, h.ne, Nat.lt_of_lt_of_le h.glt hb.size⟩
  have hd' : Holds w1 g A' (bcs (l.drop n)) := hd.keep (F := []) (Ch.of_below hb) (by simp)
  have hs := h'.set (l' := l.drop n) (A := A') (c := c') (by simpa using h1) h2 hd'
  rw [List.length_drop] at hs
  refine ⟨G, hG, rfl, hrow.keep (F := [R]) ((Ch.refl [R] w1).setCell (by simp) _) (by simp; omega), hs, ?_⟩
  exact ((Ch.of_below hb).mono (by simp)).setCell (by simp) _

set_option maxHeartbeats 400000 in
theorem bytes_ok (R g : Nat) (l : List UInt8) (n : Nat) (w : World) (h : Rdr w R g l) (hn : n ≤ l.length) :
    Calls Try.prog 72 #[.pointer (some ⟨R, 0, none⟩), .int .i64 (n : Int)] w (TakePost w R g l n) := by
  obtain ⟨A, c, hcell, hfr, h2, h3, h4⟩ := h.open_
  have hR := h.lt
  have HR := Lib.hid h
  have HD : Hid (Holds w g (if c = n then A else A.map (·.add n)) (bcs (l.drop n))) := by
    have := h4.drop n c (by rw [bcs_length]; exact hn) (by rw [bcs_length]; exact h2)
    rw [show (bcs l).drop n = bcs (l.drop n) by simp [bcs, List.map_drop]] at this
    exact this
  have H4 : Hid (Holds w g A (bcs (l.take n))) := by
    have := h4.take n
    rw [show (bcs l).take n = bcs (l.take n) by simp [bcs, List.map_take]] at this
    exact this
  clear h h4
  have hlt : (l.take n).length = n := by simp; omega
  have HLT := Lib.hid hlt
  clear hlt
  have h0 : ¬ (n : Int) < 0 := by omega
  have h1 : ¬ (l.length : Int) < (n : Int) := by omega
  go_enter Try.func72, Try.ntmps72
  go_wp2_with (go_at_call 69; refine (join_cut g A n c (l.take n) _ H4.out (by omega) HLT.out).mono ?_; rintro e w1 ⟨G, hG, rfl, hrow, hb⟩; rw [HLT.out]; have hcell1 := (hb.cell (p := ⟨R, 0, none⟩) hR).trans hcell; have hfr1 := (hb.frozen (p := ⟨R, 0, none⟩) hR).trans hfr)
  · go_ret2
    have hd := HD.out
    rw [if_pos (by assumption)] at hd
    exact take_close HR.out hb hG hrow hd (by omega) (by omega)
  · go_ret2
    have hd := HD.out
    rw [if_neg (by assumption)] at hd
    exact take_close HR.out hb hG hrow hd (by omega) (by omega)

/-- The number of bytes, the highest first. -/
def num (l : List UInt8) : Nat := l.foldl (fun n b => n * 256 + b.toNat) 0
theorem num_snoc (l : List UInt8) (b : UInt8) : num (l ++ [b]) = num l * 256 + b.toNat := by simp [num, List.foldl_append]
theorem num_lt_aux : ∀ (l : List UInt8) (n : Nat), l.foldl (fun n b => n * 256 + b.toNat) n < (n + 1) * 256 ^ l.length
  | [], n => by simp
  | b :: l, n => by
    have h := num_lt_aux l (n * 256 + b.toNat)
    have hb : b.toNat < 256 := b.toNat_lt
    simp only [List.foldl_cons, List.length_cons]
    refine Nat.lt_of_lt_of_le h ?_
    rw [Nat.pow_succ, Nat.mul_comm (256 ^ l.length) 256, ← Nat.mul_assoc]
    exact Nat.mul_le_mul_right _ (by omega)
theorem num_lt (l : List UInt8) : num l < 256 ^ l.length := by have := num_lt_aux l 0; simpa [num] using this

theorem or_step (N : Nat) (b : UInt8) (h : N < 16777216) : bits .or .u32 ((N : Int) * 256 % 4294967296) ((b.toNat : Int) % 4294967296) = ((N * 256 + b.toNat : Nat) : Int) := by
  have hb : b.toNat < 256 := b.toNat_lt
  have e1 : (N : Int) * 256 % 4294967296 = ((N * 256 : Nat) : Int) := by omega
  have e2 : (b.toNat : Int) % 4294967296 = ((b.toNat : Nat) : Int) := by omega
  rw [e1, e2, u32_or_nat _ _ (by omega) (by omega)]
  have := Nat.shiftLeft_add_eq_or_of_lt (i := 8) (b := b.toNat) (by omega) N
  rw [Nat.shiftLeft_eq] at this
  rw [← this]
theorem num_take_small (t : List UInt8) (k : Nat) (hk : k ≤ 3) : num (t.take k) < 16777216 := by
  have h := num_lt (t.take k)
  have hl : (t.take k).length ≤ 3 := by simp; omega
  have : 256 ^ (t.take k).length ≤ 256 ^ 3 := Nat.pow_le_pow_right (by omega) hl
  omega

def NumPost (w : World) (R g : Nat) (k : IntKind) (l : List UInt8) (n : Nat) (e : Ending) (w' : World) : Prop :=
  e = .returned (.tuple #[.int k (num (l.take n) : Nat), .int .i64 0]) ∧ Rdr w' R g (l.drop n) ∧ Ch [R] w w'
set_option maxHeartbeats 400000 in
theorem number_ok (R g : Nat) (l : List UInt8) (n : Nat) (w : World) (h : Rdr w R g l) (hn : n ≤ l.length) (hn4 : n ≤ 4) :
    Calls Try.prog 71 #[.pointer (some ⟨R, 0, none⟩), .int .i64 (n : Int)] w (NumPost w R g .u32 l n) := by
  have HR := Lib.hid h
  clear h
  have HLT : Hid ((l.take n).length = n) := by show _ = _; simp; omega
  go_enter Try.func71, Try.ntmps71
  go_wp2_with (go_at_call 72; refine (bytes_ok R g l n _ HR.out hn).mono ?_; rintro e w1 ⟨G, hG, rfl, hrow, hrd, hch⟩)
  generalize ht : l.take n = t at *
  have HT := Lib.hid ht
  clear ht
  go_loop [8, 19] (fun x i => ∃ k : Nat, k ≤ n ∧ i = .int .i64 k ∧ x = .int .u32 (num (t.take k) : Nat)) (fun _ i => n - (intOf i).toNat)
  case atStart => exact ⟨0, Nat.zero_le _, rfl, by simp [num]⟩
  case round =>
    obtain ⟨k, hk, rfl, rfl⟩ := hrel
    by_cases hlt : k < n
    · have hlen := HLT.out
      have hc := hrow.cell k (by omega)
      have HC := Lib.hid (List.take_succ_eq_append_getElem (l := t) (i := k) (by omega))
      generalize t[k]'(by omega) = b at *
      have HO := Lib.hid (or_step (num (t.take k)) b (num_take_small t k (by omega)))
      clear hlen hrow
      go_wp2
      go_round
      case rel => exact ⟨k + 1, by omega, by go_num, by rw [HC.out, num_snoc, HO.out]⟩
      case measure => simp [intOf]; omega
    · have hkn : k = n := by omega
      subst hkn
      go_wp2
      go_ret2
      have hlen := HLT.out
      refine ⟨?_, hrd, hch⟩
      rw [HT.out, List.take_of_length_le (l := t) (by omega)]
      rfl

theorem num_take_lt (l : List UInt8) (n : Nat) : num (l.take n) < 256 ^ n :=
  Nat.lt_of_lt_of_le (num_lt _) (Nat.pow_le_pow_right (by omega) (by simp; omega))

theorem u8_ok (R g : Nat) (l : List UInt8) (w : World) (h : Rdr w R g l) (hn : 1 ≤ l.length) :
    Calls Try.prog 61 #[.pointer (some ⟨R, 0, none⟩)] w (NumPost w R g .u8 l 1) := by
  have HR := Lib.hid h
  clear h
  have hb := num_take_lt l 1
  generalize hN : num (l.take 1) = N at *
  have HN := Lib.hid hN
  clear hN
  go_enter Try.func61, Try.ntmps61
  go_wp2_with (go_at_call 71; refine (number_ok R g l 1 _ HR.out hn (by omega)).mono ?_; rintro e w1 ⟨rfl, hrd, hch⟩; rw [HN.out])
  go_ret2
  exact ⟨by rw [HN.out]; rfl, hrd, hch⟩

/-- n bytes, if there are as many: what is told, the error, what is left. -/
def tk (l : List UInt8) (n : Nat) : List UInt8 := if n ≤ l.length then l.take n else []
def er (l : List UInt8) (n : Nat) : Int := if n ≤ l.length then 0 else 2
end Go.Proofs.Ytdcnmbglbopgdaa
