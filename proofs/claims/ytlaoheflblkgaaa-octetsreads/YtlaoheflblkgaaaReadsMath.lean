/-
  The document's reader (lamplightref01), and the layer's own, by one set of words; their contracts.
-/
import Derived.Test.YtlaoheflblkgaaaShown
import Derived.Test.YtlaoheflblkgaaaNums
namespace Go.Proofs.Ytlaoheflblkgaaa
set_option linter.unusedVariables false
set_option linter.unusedSimpArgs false
open Go.RowKit

/-- Whatever number of bytes is asked for: what is told, the error, what is left. -/
def tkI (q : List UInt8) (n : Int) : List UInt8 := if n < 0 then [] else tk q n.toNat
def erI (q : List UInt8) (n : Int) : Int := if n < 0 then 1 else er q n.toNat
def drI (q : List UInt8) (n : Int) : List UInt8 := if n < 0 then q else dr q n.toNat
theorem tkI_nat (q : List UInt8) (n : Nat) : tkI q (n : Int) = tk q n := by simp [tkI]; omega
theorem erI_nat (q : List UInt8) (n : Nat) : erI q (n : Int) = er q n := by simp [erI]; omega
theorem drI_nat (q : List UInt8) (n : Nat) : drI q (n : Int) = dr q n := by simp [drI]; omega
theorem tk_le (q : List UInt8) (n : Nat) : (tk q n).length ≤ n := by
  unfold tk
  split
  · simp; omega
  · simp
theorem tk_all (q : List UInt8) : tk q q.length = q ∧ er q q.length = 0 ∧ dr q q.length = [] := by simp [tk, er, dr]

/-- The document's reader: what is left, as a text. -/
def Ref (w : World) (Z : Nat) (q : List UInt8) : Prop := w.heap[Z]? = some (.cells #[.string ⟨q.toArray⟩] 29 (0, 0))
theorem Ref.lt {w : World} {Z : Nat} {q : List UInt8} (h : Ref w Z q) : Z < w.heap.size := (Array.getElem?_eq_some_iff.1 h).1
theorem Ref.keep {F : List Nat} {w w' : World} {Z : Nat} {q : List UInt8} (h : Ref w Z q) (hc : Ch F w w') (hZ : Z ∉ F) : Ref w' Z q := (hc.block Z h.lt hZ).trans h
theorem Ref.cell {w : World} {Z : Nat} {q : List UInt8} (h : Ref w Z q) : w.cell? ⟨Z, 0, none⟩ = some (.string ⟨q.toArray⟩) := by unfold Ref at h; simp [World.cell?, h]
theorem Ref.frozen {w : World} {Z : Nat} {q : List UInt8} (h : Ref w Z q) : w.frozen? ⟨Z, 0, none⟩ = false := by unfold Ref at h; simp [World.frozen?, h]
theorem Ref.set {w : World} {Z : Nat} {q q' : List UInt8} (h : Ref w Z q) : Ref (w.setCell ⟨Z, 0, none⟩ (.string ⟨q'.toArray⟩)) Z q' := by
  unfold Ref at h ⊢
  simp [World.setCell, Array.getElem?_modify, h]

def RefPost (w : World) (Z : Nat) (q : List UInt8) (n : Int) (e : Ending) (w' : World) : Prop :=
  e = .returned (.tuple #[.string ⟨(tkI q n).toArray⟩, .int .i64 (erI q n)]) ∧ Ref w' Z (drI q n) ∧ Ch [Z] w w'

theorem ext_take (q : List UInt8) (n : Nat) (h : n ≤ q.length) : (ByteArray.mk q.toArray).extract 0 n = ByteArray.mk (q.take n).toArray := by
  rw [ByteArray.extract_mk]; simp
theorem ext_drop (q : List UInt8) (n : Nat) (h : n ≤ q.length) : (ByteArray.mk q.toArray).extract n q.length = ByteArray.mk (q.drop n).toArray := by
  rw [ByteArray.extract_mk, List.take_of_length_le (by simp)]

set_option maxHeartbeats 800000 in
theorem take_ref (Z : Nat) (q : List UInt8) (n : Int) (w : World) (h : Ref w Z q) (hq : q.length ≤ 1000) :
    Calls Try.prog 14 #[.pointer (some ⟨Z, 0, none⟩), .int .i64 n] w (RefPost w Z q n) := by
  have hcell := h.cell
  have hfr := h.frozen
  have HR := Lib.hid h
  clear h
  by_cases h0 : n < 0
  · go_enter Try.func14, Try.ntmps14
    go_wp2
    go_ret2
    exact ⟨by simp [tkI, erI, h0], by simpa [drI, h0] using HR.out, Ch.refl _ _⟩
  · obtain ⟨m, rfl⟩ := Int.eq_ofNat_of_zero_le (by omega : 0 ≤ n)
    have hsz : (ByteArray.mk q.toArray).size = q.length := rfl
    by_cases h1 : m ≤ q.length
    · have e1 := ext_take q m h1
      have e2 := ext_drop q m h1
      have h1' : ¬ (q.length : Int) < (m : Int) := by omega
      have h2' : (m : Int) ≤ (q.length : Int) := by omega
      go_enter Try.func14, Try.ntmps14
      go_wp2
      go_ret2
      refine ⟨?_, ?_, (Ch.refl [Z] w).setCell (by simp) _⟩
      · rw [tkI_nat, erI_nat]; simp [tk, er, h1]
      · rw [drI_nat]
        have hs := HR.out.set (q' := q.drop m)
        simpa [dr, h1] using hs
    · have h1' : (q.length : Int) < (m : Int) := by omega
      go_enter Try.func14, Try.ntmps14
      go_wp2
      go_ret2
      refine ⟨?_, ?_, Ch.refl _ _⟩
      · rw [tkI_nat, erI_nat]; simp [tk, er, h1]
      · rw [drI_nat]; simpa [dr, h1] using HR.out

def UPost (w : World) (R g : Nat) (kd : IntKind) (l : List UInt8) (k : Nat) (e : Ending) (w' : World) : Prop :=
  e = .returned (.tuple #[.int kd (num (tk l k) : Nat), .int .i64 (er l k)]) ∧ Rdr w' R g (dr l k) ∧ Ch [R] w w'
theorem u8_tk (R g : Nat) (l : List UInt8) (w : World) (h : Rdr w R g l) : Calls Try.prog 13 #[.pointer (some ⟨R, 0, none⟩)] w (UPost w R g .u8 l 1) := by
  by_cases hl : 1 ≤ l.length
  · refine (u8_ok R g l w h hl).mono ?_
    rintro e w' ⟨he, hr, hc⟩
    exact ⟨by simpa [tk, er, hl] using he, by simpa [dr, hl] using hr, hc⟩
  · refine (u8_short R g l w h (by omega)).mono ?_
    rintro e w' ⟨he, rfl⟩
    exact ⟨by simpa [tk, er, hl, num] using he, by simpa [dr, hl] using h, Ch.refl _ _⟩
theorem u16_tk (R g : Nat) (l : List UInt8) (w : World) (h : Rdr w R g l) : Calls Try.prog 15 #[.pointer (some ⟨R, 0, none⟩)] w (UPost w R g .u16 l 2) := by
  by_cases hl : 2 ≤ l.length
  · refine (u16_ok R g l w h hl).mono ?_
    rintro e w' ⟨he, hr, hc⟩
    exact ⟨by simpa [tk, er, hl] using he, by simpa [dr, hl] using hr, hc⟩
  · refine (u16_short R g l w h (by omega)).mono ?_
    rintro e w' ⟨he, rfl⟩
    exact ⟨by simpa [tk, er, hl, num] using he, by simpa [dr, hl] using h, Ch.refl _ _⟩
theorem u32_tk (R g : Nat) (l : List UInt8) (w : World) (h : Rdr w R g l) : Calls Try.prog 16 #[.pointer (some ⟨R, 0, none⟩)] w (UPost w R g .u32 l 4) := by
  by_cases hl : 4 ≤ l.length
  · refine (u32_ok R g l w h hl).mono ?_
    rintro e w' ⟨he, hr, hc⟩
    exact ⟨by simpa [tk, er, hl] using he, by simpa [dr, hl] using hr, hc⟩
  · refine (u32_short R g l w h (by omega)).mono ?_
    rintro e w' ⟨he, rfl⟩
    exact ⟨by simpa [tk, er, hl, num] using he, by simpa [dr, hl] using h, Ch.refl _ _⟩

/-- Bytes that were told: nothing, or a row of their own in block G. -/
structure Told (w : World) (G : Nat) (A : Option Addr) (t : List UInt8) : Prop where
  holds : Holds w G A (bcs t)
  row : 0 < t.length → A = some ⟨G, 0, none⟩ ∧ Row w G t
theorem Told.none_ (w : World) (G : Nat) (A : Option Addr) : Told w G A [] := ⟨Holds.nil _ _ _, fun h => absurd h (by simp)⟩
theorem Told.of_row {w : World} {G : Nat} {t : List UInt8} (h : Row w G t) : Told w G (some ⟨G, 0, none⟩) t := ⟨h.holds, fun _ => ⟨rfl, h⟩⟩
theorem Told.keep {F : List Nat} {w w' : World} {G : Nat} {A : Option Addr} {t : List UInt8} (h : Told w G A t) (hc : Ch F w w') (hG : G ∉ F) : Told w' G A t :=
  ⟨h.holds.keep hc (fun _ => hG), fun hp => ⟨(h.row hp).1, (h.row hp).2.keep hc hG⟩⟩

def BytesIPost (w : World) (R g : Nat) (l : List UInt8) (n : Int) (e : Ending) (w' : World) : Prop :=
  ∃ A c G, e = .returned (.tuple #[.slice A (tkI l n).length c, .int .i64 (erI l n)]) ∧ w.heap.size ≤ G ∧ Told w' G A (tkI l n) ∧ Rdr w' R g (drI l n) ∧ Ch [R] w w'
theorem bytes_int (R g : Nat) (l : List UInt8) (n : Int) (w : World) (h : Rdr w R g l) : Calls Try.prog 17 #[.pointer (some ⟨R, 0, none⟩), .int .i64 n] w (BytesIPost w R g l n) := by
  by_cases h0 : n < 0
  · refine (bytes_neg R g l n w h h0).mono ?_
    rintro e w' ⟨he, rfl⟩
    exact ⟨none, 0, w.heap.size, by simpa [tkI, erI, h0] using he, Nat.le_refl _, by simpa [tkI, h0] using Told.none_ w w.heap.size none, by simpa [drI, h0] using h, Ch.refl _ _⟩
  · obtain ⟨m, rfl⟩ := Int.eq_ofNat_of_zero_le (by omega : 0 ≤ n)
    by_cases hl : m ≤ l.length
    · refine (bytes_ok R g l m w h hl).mono ?_
      rintro e w' ⟨G, hG, he, hrow, hr, hc⟩
      have htl : (l.take m).length = m := by simp; omega
      refine ⟨some ⟨G, 0, none⟩, m, G, ?_, hG, ?_, ?_, hc⟩
      · rw [tkI_nat, erI_nat]; simpa [tk, er, hl, htl] using he
      · rw [tkI_nat]; simpa [tk, hl] using Told.of_row hrow
      · rw [drI_nat]; simpa [dr, hl] using hr
    · refine (bytes_short R g l m w h (by omega)).mono ?_
      rintro e w' ⟨he, rfl⟩
      refine ⟨none, 0, w.heap.size, ?_, Nat.le_refl _, ?_, ?_, Ch.refl _ _⟩
      · rw [tkI_nat, erI_nat]; simpa [tk, er, hl] using he
      · rw [tkI_nat]; simpa [tk, hl] using Told.none_ w w.heap.size none
      · rw [drI_nat]; simpa [dr, hl] using h

set_option maxHeartbeats 800000 in
theorem number_ref (t : List UInt8) (w : World) (h : t.length ≤ 4) :
    Calls Try.prog 19 #[.string ⟨t.toArray⟩] w fun e w' => e = .returned (.int .u32 (num t : Nat)) ∧ w = w' := by
  have hsz : (ByteArray.mk t.toArray).size = t.length := rfl
  go_enter Try.func19, Try.ntmps19
  go_wp2
  go_loop [3, 4] (fun x i => ∃ k : Nat, k ≤ t.length ∧ i = .int .i64 k ∧ x = .int .u32 (num (t.take k) : Nat)) (fun _ i => t.length - (intOf i).toNat)
  case atStart => exact ⟨0, Nat.zero_le _, rfl, by simp [num]⟩
  case round =>
    obtain ⟨k, hk, rfl, rfl⟩ := hrel
    by_cases hlt : k < t.length
    · have hkz : (0 : Int) ≤ (k : Int) := by omega
      have hkl : (k : Int) < (t.length : Int) := by omega
      have HS := Lib.hid (List.take_succ_eq_append_getElem (l := t) (i := k) hlt)
      have hb := num_take_small t k (by omega)
      have hbb : (t[k]).toNat < 256 := UInt8.toNat_lt _
      have hix : (ByteArray.mk t.toArray)[k]'(by rw [hsz]; exact hlt) = t[k] := rfl
      generalize hN : num (t.take k) = N at *
      have HN := Lib.hid hN
      clear hN
      go_wp2
      go_round
      case rel => exact ⟨k + 1, by omega, by go_num, by rw [HS.out, num_snoc, HN.out]; go_num⟩
      case measure => simp [intOf]; omega
    · have hkk : k = t.length := by omega
      subst hkk
      go_wp2
      go_ret
      exact ⟨rfl, rfl⟩

theorem dr_le2 (l : List UInt8) (n : Nat) : (dr l n).length ≤ l.length := by
  unfold dr
  split
  · simp
  · exact Nat.le_refl _
theorem num_tk_lt (q : List UInt8) (k : Nat) : num (tk q k) < 256 ^ k :=
  Nat.lt_of_lt_of_le (num_lt _) (Nat.pow_le_pow_right (by omega) (tk_le q k))

theorem done_nil (R g : Nat) (w : World) (h : Rdr w R g []) : Calls Try.prog 21 #[.pointer (some ⟨R, 0, none⟩)] w fun e w' => e = .returned (.int .i64 0) ∧ w = w' :=
  (done_any R g [] w h).mono fun _ _ ⟨he, hw⟩ => ⟨by simpa using he, hw⟩
theorem done_cons (R g : Nat) (x : UInt8) (q : List UInt8) (w : World) (h : Rdr w R g (x :: q)) : Calls Try.prog 21 #[.pointer (some ⟨R, 0, none⟩)] w fun e w' => e = .returned (.int .i64 3) ∧ w = w' :=
  (done_any R g (x :: q) w h).mono fun _ _ ⟨he, hw⟩ => ⟨by simpa using he, hw⟩

end Go.Proofs.Ytlaoheflblkgaaa
