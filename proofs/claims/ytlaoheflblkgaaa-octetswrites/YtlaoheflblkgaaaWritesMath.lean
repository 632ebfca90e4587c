/-
  lamplightref01.Text, and what own rows of bytes are when they are written over.
-/
import Derived.Test.YtlaoheflblkgaaaParts
import Derived.Test.YtlaoheflblkgaaaEager
import Derived.Deep.RegionHeld
namespace Go.Proofs.Ytlaoheflblkgaaa
set_option linter.unusedVariables false
set_option linter.unusedSimpArgs false
open Go.RowKit

/-- A number as so many bytes. -/
def txt (n : Nat) : Nat → List UInt8
  | 0 => []
  | k + 1 => UInt8.ofNat (n / 256 ^ k) :: txt n k

theorem txt_len (n : Nat) : ∀ k, (txt n k).length = k
  | 0 => rfl
  | k + 1 => by simp [txt, txt_len n k]

theorem txt_1 (n : Nat) : txt n 1 = be8 (n % 256) := by
  simp [txt, be8]
  apply UInt8.toNat_inj.1
  simp
theorem txt_2 (n : Nat) : txt n 2 = be16 (n % 65536) := by
  simp [txt, be16]
  constructor <;> apply UInt8.toNat_inj.1 <;> simp <;> omega
theorem txt_4 (n : Nat) : txt n 4 = be32 n := by
  simp [txt, be32]

theorem pow_step (n k : Nat) : n / 256 ^ k / 256 = n / 256 ^ (k + 1) := by
  rw [Nat.div_div_eq_div_mul, Nat.pow_succ]

theorem one_byte (n : Nat) : (#[Value.int .u8 ((n : Int) % 256)] : Array Value) = (bcs [UInt8.ofNat n]).toArray := by
  simp [bcs]

set_option maxHeartbeats 800000 in
theorem text_any (n sz : Nat) (w : World) (hn : n < 4294967296) (hs : sz ≤ 4) :
    Calls Try.prog 23 #[.int .u32 n, .int .i64 sz] w fun e w' => e = .returned (.string ⟨(txt n sz).toArray⟩) ∧ Below w.heap.size w w' := by
  go_enter Try.func23, Try.ntmps23
  go_wp2
  go_loopw [0, 5, 6] (fun x s i wr => ∃ k : Nat, k ≤ sz ∧ i = .int .i64 k ∧ x = .int .u32 ((n / 256 ^ k : Nat) : Int) ∧ s = .string ⟨(txt n k).toArray⟩ ∧ Below w.heap.size w wr) (fun _ _ i _ => sz - (intOf i).toNat)
  case atStart => exact ⟨0, Nat.zero_le _, rfl, by simp, rfl, Below.refl _ _⟩
  case round =>
    obtain ⟨k, hk, rfl, rfl, rfl, hb⟩ := hrel
    have HB := Lib.hid hb
    clear hb
    by_cases hlt : k < sz
    · have hdn : n / 256 ^ k < 4294967296 := Nat.lt_of_le_of_lt (Nat.div_le_self _ _) hn
      have HP := Lib.hid (pow_step n k)
      generalize hd : n / 256 ^ k = d at *
      have HD := Lib.hid hd
      clear hd
      have hl := txt_len n k
      generalize ht : txt n k = t at *
      have HT := Lib.hid ht
      clear ht
      have hcv := convert_len (w := wr.alloc (.cells #[Value.int .u8 ((d : Int) % 256)] 5)) (G := wr.heap.size) (n := 1) (l := [UInt8.ofNat d]) (by unfold Row; rw [← one_byte]; exact heap_alloc_new wr _) rfl
      have hct := cat_two [UInt8.ofNat d] t
      go_wp2
      go_roundw
      case rel => exact ⟨k + 1, by omega, by go_num, by rw [← HP.out]; simp, by rw [← HT.out, ← HD.out]; rfl, HB.out.alloc HB.out.size _⟩
      case measure => simp [intOf]; omega
    · have : k = sz := by omega
      subst this
      go_wp2
      go_ret
      exact ⟨rfl, HB.out⟩

/-- Rows of bytes in a row of slices, as far as a store needs them. -/
def Shape (w : World) (ok : Nat → Prop) (V : Option Addr) (ps : List (List UInt8)) : Prop :=
  ∀ k l, ps[k]? = some l → ∃ b A c, V = some ⟨b, 0, none⟩ ∧ ok b ∧ w.cell? ⟨b, k, none⟩ = some (.slice A l.length c) ∧
    (0 < l.length → ∃ g, A = some ⟨g, 0, none⟩ ∧ ok g ∧ g ≠ b ∧ ∃ cs, w.heap[g]? = some (.cells cs 5 (0, 0)) ∧ l.length ≤ cs.size)

theorem Shape.set {w : World} {ok : Nat → Prop} {b g j : Nat} {ps : List (List UInt8)} (h : Shape w ok (some ⟨b, 0, none⟩) ps) (hne : g ≠ b) (v : Value) : Shape (w.setCell ⟨g, j, none⟩ v) ok (some ⟨b, 0, none⟩) ps := by
  intro k l hk
  obtain ⟨b', A, c, hV, hok, hcell, hin⟩ := h k l hk
  injection hV with hV
  injection hV with hb _ _
  subst hb
  refine ⟨b, A, c, rfl, hok, (World.cell?_setCell_far w ⟨g, j, none⟩ ⟨b, k, none⟩ v hne).trans hcell, fun hp => ?_⟩
  obtain ⟨g2, hA, hok2, hne2, cs, hh, hl⟩ := hin hp
  by_cases hg : g2 = g
  · subst hg
    refine ⟨g2, hA, hok2, hne2, cs.setIfInBounds j v, ?_, by simpa using hl⟩
    simp [World.setCell, Array.getElem?_modify, hh]
  · refine ⟨g2, hA, hok2, hne2, cs, ?_, hl⟩
    simp [World.setCell, Array.getElem?_modify, hh, Ne.symm hg]

theorem OwnP.shape {w : World} {B : Nat} {V : Option Addr} {c : Nat} {ps : List (List UInt8)} {vs : List Value} (h : OwnP w B V c ps vs) : Shape w (fun x => B ≤ x ∧ x < w.heap.size) V ps := by
  intro k l hk
  have hkl : k < ps.length := by
    rcases Nat.lt_or_ge k ps.length with h | h
    · exact h
    · rw [List.getElem?_eq_none h] at hk; cases hk
  have hkv : k < vs.length := by rw [h.rows.len]; exact hkl
  obtain ⟨hv, hB⟩ := h.rows.own k vs[k] l (List.getElem?_eq_getElem hkv) hk
  obtain ⟨A, c', hform⟩ := own_form hv
  rcases h.outer.2 with ⟨_, h0⟩ | ⟨g, cap, cur, hV, _, hh, h1, h2, h3, h4⟩
  · omega
  · injection hV with hV _ _
    have hgB : B ≤ g := h.from_ g (by rw [hV]; rfl)
    have hglt := (Array.getElem?_eq_some_iff.1 hh).1
    have hcell : w.cell? ⟨g, k, none⟩ = some (.slice A l.length c') := by
      have h5 : vs[k]? = some (.slice A l.length c') := by rw [List.getElem?_eq_getElem hkv, hform]
      rw [← h4, List.getElem?_take] at h5
      split at h5
      · simp only [World.cell?, hh]
        simpa using h5
      · cases h5
    rw [hform] at hv hB
    refine ⟨g, A, c', hV, ⟨hgB, hglt⟩, hcell, fun hp => ?_⟩
    rcases hv.2 with ⟨_, h0⟩ | ⟨g2, cap2, cur2, hx, _, hh2, h5, h6, h7, h8⟩
    · omega
    · have hx' := hx
      injection hx with hA _ _
      have hlen := congrArg List.length h8
      simp [bcs] at hlen
      refine ⟨g2, hA, ⟨hB g2 (by rw [hA]; rfl), (Array.getElem?_eq_some_iff.1 hh2).1⟩, ?_, cur2, hh2, by omega⟩
      exact own_ne hh hv (by rw [hA]; rfl) (by decide)

end Go.Proofs.Ytlaoheflblkgaaa
