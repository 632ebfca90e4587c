/-
  lamplightlaw01.OctetsBack answers true, and turns nothing that was there: all cases.
-/
import Derived.Test.YtlaoheflblkgaaaBackWalkF
import Derived.Test.YtlaoheflblkgaaaBackWalkT
namespace Go.Proofs.Ytlaoheflblkgaaa
set_option linter.unusedVariables false
set_option linter.unusedSimpArgs false
open Go.RowKit

set_option maxHeartbeats 2000000 in
set_option maxRecDepth 100000 in
theorem back_none (A : Option Addr) (cap : Nat) (w : World) :
    Calls Try.prog 5 #[.slice A 0 cap, .bool true] w fun e w' => e = .returned (.bool true) ∧ Below w.heap.size w w' := by
  go_enter Try.func5, Try.ntmps5
  go_wp2_with fail
  refine (shown_any w).mono ?_
  rintro e w1 ⟨rfl, hb1⟩
  have HW0 := Lib.hid (Wtr.new w1)
  have HB0 : Hid (Below w.heap.size w (w1.alloc (.cells #[.slice none 0 0] 55))) := hb1.alloc hb1.size _
  have hWs : w.heap.size ≤ w1.heap.size := hb1.size
  clear hb1
  go_wp2
  generalize w1.heap.size = W at *
  generalize w1.alloc (.cells #[.slice none 0 0] 55) = w2 at *
  go_loop [7] (fun i => i = .int .i64 0) (fun _ => 0)
  case atStart => rfl
  case round =>
    subst hrel
    go_wp2_with fail
    refine (wdone_any W W [] w2 HW0.out (by simp)).mono ?_
    rintro e w4 ⟨G, hG, rfl, hrow, hb4'⟩
    have hb4 : Below w.heap.size w w4 := HB0.out.trans (hb4'.mono HB0.out.size)
    go_wp2_with fail
    refine (read_len G _ 0 0 [] w4 hrow.holds rfl (by omega)).mono ?_
    rintro e w5 ⟨R, gr, hR, hgr, rfl, hr5, hb5'⟩
    have hb5 : Below w.heap.size w w5 := hb4.trans (hb5'.mono hb4.size)
    have HR := Lib.hid hr5
    have HB := Lib.hid hb5
    clear hr5 hb5 hb5' hb4 hb4' hrow
    go_wp2
    go_loop [10] (fun i => i = .int .i64 0) (fun _ => 0)
    case atStart => rfl
    case round =>
      subst hrel
      go_wp2_with fail
      refine (done_any R gr [] w5 HR.out).mono ?_
      rintro e w6 ⟨rfl, rfl⟩
      go_wp2
      go_ret
      exact ⟨rfl, HB.out⟩

theorem back_walk (g0 : Nat) (A : Option Addr) (zs : List Int) (len cap : Nat) (cut : Bool) (w : World) (h : Holds w g0 A (zs.map (Value.int .u32))) (hlen : zs.length = len) (hzs : ∀ n ∈ zs, 0 ≤ n ∧ n < 4294967296)
    (hcap : len ≤ cap) (hmx : cap ≤ 9223372036854775807) :
    Calls Try.prog 5 #[.slice A len cap, .bool cut] w fun e w' => e = .returned (.bool true) ∧ Below w.heap.size w w' := by
  cases cut with
  | false => exact back_whole g0 A zs len cap w h hlen hzs hcap hmx
  | true =>
    rcases Nat.eq_zero_or_pos len with h0 | h0
    · subst h0
      exact back_none A cap w
    · exact back_cut g0 A zs len cap w h hlen hzs hcap hmx h0

end Go.Proofs.Ytlaoheflblkgaaa
