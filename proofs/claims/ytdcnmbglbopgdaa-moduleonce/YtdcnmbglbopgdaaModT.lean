/-
  lamplightref11.Text, as it stands: five bytes, as a string.
-/
import Derived.Test.YtdcnmbglbopgdaaModS
namespace Go.Proofs.Ytdcnmbglbopgdaa
set_option linter.unusedVariables false
set_option linter.unusedSimpArgs false
open Go.RowKit

theorem txt5_cellsk {k t q : Nat} (hk : k < 256) (ht : t < 65536) (hq : q < 65536) : bcs (txt5 k t q) = [.int .u8 (k : Int), .int .u8 ((t / 256 : Nat) : Int), .int .u8 ((t % 256 : Nat) : Int), .int .u8 ((q / 256 : Nat) : Int), .int .u8 ((q % 256 : Nat) : Int)] := by
  have h1 : (UInt8.ofNat k).toNat = k := by simp; omega
  have h2 : (UInt8.ofNat (t / 256)).toNat = t / 256 := by simp; omega
  have h3 : (UInt8.ofNat (t % 256)).toNat = t % 256 := by simp
  have h4 : (UInt8.ofNat (q / 256)).toNat = q / 256 := by simp; omega
  have h5 : (UInt8.ofNat (q % 256)).toNat = q % 256 := by simp
  unfold txt5
  simp only [bcs, List.map_cons, List.map_nil, h1, h2, h3, h4, h5]
set_option maxRecDepth 20000 in
set_option maxHeartbeats 1600000 in
theorem text_on {x : World} {k t q : Nat} (hk : k < 256) (ht : t < 65536) (hq : q < 65536) : Calls Try.prog 28 #[.int .u8 (k : Int), .int .u16 (t : Int), .int .u16 (q : Int)] x fun e y => e = .returned (.string ⟨(txt5 k t q).toArray⟩) ∧ Below x.heap.size x y := by
  obtain ⟨t1, ht1⟩ : ∃ t1, t / 256 = t1 := ⟨_, rfl⟩
  obtain ⟨t2, ht2⟩ : ∃ t2, t % 256 = t2 := ⟨_, rfl⟩
  obtain ⟨q1, hq1⟩ : ∃ q1, q / 256 = q1 := ⟨_, rfl⟩
  obtain ⟨q2, hq2⟩ : ∃ q2, q % 256 = q2 := ⟨_, rfl⟩
  have hc := txt5_cellsk hk ht hq
  rw [ht1, ht2, hq1, hq2] at hc
  have a1 : (t : Int).tdiv 256 = (t1 : Int) := by rw [← ht1]; rfl
  have a2 : (t : Int).tmod 256 = (t2 : Int) := by rw [← ht2]; rfl
  have a3 : (q : Int).tdiv 256 = (q1 : Int) := by rw [← hq1]; rfl
  have a4 : (q : Int).tmod 256 = (q2 : Int) := by rw [← hq2]; rfl
  have b1 : t1 < 256 := by omega
  have b2 : t2 < 256 := by omega
  have b3 : q1 < 256 := by omega
  have b4 : q2 < 256 := by omega
  have hb := new_below x (.cells #[.int .u8 (k : Int), .int .u8 (t1 : Int), .int .u8 (t2 : Int), .int .u8 (q1 : Int), .int .u8 (q2 : Int)] 5)
  have hd := heap_alloc_new x (.cells #[.int .u8 (k : Int), .int .u8 (t1 : Int), .int .u8 (t2 : Int), .int .u8 (q1 : Int), .int .u8 (q2 : Int)] 5)
  have ho : (x.alloc (.cells #[.int .u8 (k : Int), .int .u8 (t1 : Int), .int .u8 (t2 : Int), .int .u8 (q1 : Int), .int .u8 (q2 : Int)] 5)).ownsRow 0 5 1 (.slice (some ⟨x.heap.size, 0, none⟩) 5 5) 5 (bcs (txt5 k t q)) := by
    rw [hc]
    exact ⟨rfl, .inr ⟨x.heap.size, 5, _, rfl, Nat.zero_le _, hd, by omega, by unfold maxLen; omega, rfl, rfl⟩⟩
  have hcv := str_own ho (txt5_len k t q)
  have HB := Lib.hid hb
  clear hb hd ho hc ht1 ht2 hq1 hq2
  go_enter Try.func28, Try.ntmps28
  go_wp2
  go_ret
  exact ⟨rfl, HB.out⟩
end Go.Proofs.Ytdcnmbglbopgdaa
