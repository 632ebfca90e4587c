/-
  lamplightlaw06.shown, as it stands: true.
-/
import Derived.Test.YthpalepkilmpiaaWireF
namespace Go.Proofs.Ythpalepkilmpiaa
set_option linter.unusedVariables false
set_option linter.unusedSimpArgs false
open Go.RowKit

theorem put_lit {w x : World} {D g : Nat} {room k n : Int} {qs : List Rw} {A : Option Addr} {b : UInt8} (hw : Lw w D room qs x) (hql : qs.length ≤ 1000000) (h : Holds x g A (bcs [b])) :
    Calls Try.prog 17 #[.pointer (some ⟨D, 0, none⟩), .slice A 1 1, .agg #[.int .i64 k, .int .i64 n, .int .u8 0, .slice none 0 0]] x fun e y => e = .returned (.int .i64 (putM room qs ⟨k, n, 0, []⟩ [b]).2) ∧ Lw w D room (putM room qs ⟨k, n, 0, []⟩ [b]).1 y ∧ Ft D [57, 61] x y :=
  put_lw (f := ⟨k, n, 0, []⟩) (gB := 0) (AB := none) (bc := 0) hw hql h rfl (by decide) (by decide) (by decide) (Holds.nil _ _ _) (Nat.le_refl _) (Nat.zero_le _)

theorem s1 : putM 3 [] ⟨3, 2, 0, []⟩ [120] = ([⟨[120], 2⟩], 0) := rfl
theorem s2 : putM 3 [⟨[120], 2⟩] ⟨0, 0, 0, []⟩ [121] = ([⟨[120], 2⟩, ⟨[121], 0⟩], 0) := rfl
theorem s3 : putM 3 [⟨[120], 2⟩, ⟨[121], 0⟩] ⟨2, 0, 0, []⟩ [122] = ([⟨[120], 2⟩, ⟨[121], 0⟩], 5) := rfl
theorem s4 : putM 3 [⟨[120], 2⟩, ⟨[121], 0⟩] ⟨1, 0, 0, []⟩ [122] = ([⟨[120], 2⟩, ⟨[121], 0⟩], 0) := rfl
theorem s5 : takeM [⟨[120], 2⟩, ⟨[121], 0⟩] = ([], [⟨[120], 1⟩, ⟨[121], 0⟩]) := rfl
theorem s6 : takeM [⟨[120], 1⟩, ⟨[121], 0⟩] = ([], [⟨[120], 0⟩, ⟨[121], 0⟩]) := rfl
theorem s7 : takeM [⟨[120], 0⟩, ⟨[121], 0⟩] = ([[120], [121]], []) := rfl

theorem lit_at (x : World) (b : UInt8) : Holds (x.alloc (.cells #[.int .u8 (b.toNat : Int)] 5 (1, 2))) x.heap.size (some ⟨x.heap.size, 0, none⟩) (bcs [b]) := Holds.of_row (cs := bcs [b]) (heap_alloc_new x _)

set_option maxRecDepth 20000 in
set_option maxHeartbeats 1600000 in
theorem shown_on (w : World) : Calls Try.prog 9 #[] w fun e w' => e = .returned (.bool true) ∧ Below w.heap.size w w' := by
  go_enter Try.func9, Try.ntmps9
  go_wp2_with fail
  refine (new_lw (by decide) (Below.refl _ w)).mono ?_
  rintro e x0 ⟨rfl, h0, _⟩
  have H0 := Lib.hid h0
  rw [show max (3 : Int) 1 = 3 from rfl] at H0
  clear h0
  generalize w.heap.size = D at *
  have hcv := const_one x0 #[.int .u8 120] 1 1
  have HB0 := Lib.hid (new_below x0 (.cells #[.int .u8 120] 5 (1, 2)))
  have HH0 := Lib.hid (lit_at x0 120)
  go_wp2_with fail
  clear hcv
  refine (put_lit (H0.out.step HB0.out) (by decide) HH0.out).mono ?_
  rintro e x1 ⟨rfl, h1, _⟩
  rw [s1] at h1 ⊢
  have H1 := Lib.hid h1
  clear h1 HH0 HB0 H0
  have hcv := const_one x1 #[.int .u8 121] 1 1
  have HB1 := Lib.hid (new_below x1 (.cells #[.int .u8 121] 5 (1, 2)))
  have HH1 := Lib.hid (lit_at x1 121)
  go_wp2_with fail
  clear hcv
  refine (put_lit (H1.out.step HB1.out) (by decide) HH1.out).mono ?_
  rintro e x2 ⟨rfl, h2, _⟩
  rw [s2] at h2 ⊢
  have H2 := Lib.hid h2
  clear h2 HH1 HB1 H1
  have hcv := const_one x2 #[.int .u8 122] 1 1
  have HB2 := Lib.hid (new_below x2 (.cells #[.int .u8 122] 5 (1, 2)))
  have HH2 := Lib.hid (lit_at x2 122)
  go_wp2_with fail
  clear hcv
  refine (put_lit (H2.out.step HB2.out) (by decide) HH2.out).mono ?_
  rintro e x3 ⟨rfl, h3, _⟩
  rw [s3] at h3 ⊢
  have H3 := Lib.hid h3
  clear h3 HH2 HB2 H2
  have hcv := const_one x3 #[.int .u8 122] 1 1
  have HB3 := Lib.hid (new_below x3 (.cells #[.int .u8 122] 5 (1, 2)))
  have HH3 := Lib.hid (lit_at x3 122)
  go_wp2_with fail
  clear hcv
  refine (put_lit (H3.out.step HB3.out) (by decide) HH3.out).mono ?_
  rintro e x4 ⟨rfl, h4, _⟩
  rw [s4] at h4 ⊢
  have H4 := Lib.hid h4
  clear h4 HH3 HB3 H3
  go_wp2_with fail
  refine (take_lw H4.out (by decide)).mono ?_
  rintro e x5 ⟨V5, n5, c5, vs5, rfl, hr5, h5, hf5⟩
  rw [s5] at hr5 h5
  have hn5 := hr5.len
  simp only [List.length_cons, List.length_nil] at hn5
  subst hn5
  have H5 := Lib.hid h5
  have HR5 := Lib.hid hr5
  clear h5 hr5 hf5 H4
  go_wp2_with fail
  refine (take_lw H5.out (by decide)).mono ?_
  rintro e x6 ⟨V6, n6, c6, vs6, rfl, hr6, h6, hf6⟩
  rw [s6] at hr6 h6
  have hn6 := hr6.len
  simp only [List.length_cons, List.length_nil] at hn6
  subst hn6
  have H6 := Lib.hid h6
  have HR6 := Lib.hid hr6
  clear h6 hr6 hf6 H5
  go_wp2_with fail
  refine (take_lw H6.out (by decide)).mono ?_
  rintro e x7 ⟨V7, n7, c7, vs7, rfl, hr7, h7, hf7⟩
  rw [s7] at hr7 h7
  have hn7 := hr7.len
  simp only [List.length_cons, List.length_nil] at hn7
  subst hn7
  have H7 := Lib.hid h7
  have HR7 := Lib.hid hr7
  clear h7 hr7 hf7 H6
  have HS := Lib.hid (heap_alloc_new x7 (.cells #[.string ⟨#[120]⟩, .string ⟨#[121]⟩] 9))
  have H8 := Lib.hid (H7.out.step (new_below x7 (.cells #[.string ⟨#[120]⟩, .string ⟨#[121]⟩] 9)))
  go_wp2_with fail
  refine (texts_on (ps := [[120], [121]]) (HR7.out.step (new_below x7 _)) (Holds.of_row (cs := scs [[120], [121]]) HS.out) (by decide)).mono ?_
  rintro e x9 ⟨rfl, hb9⟩
  have H9 := Lib.hid (H8.out.step hb9)
  clear hb9 HS H8 H7
  go_wp2_with fail
  refine (len_lw H9.out).mono ?_
  rintro e x10 ⟨rfl, rfl⟩
  simp only [List.length_nil]
  go_wp2
  go_ret
  exact ⟨rfl, H9.out.below⟩

end Go.Proofs.Ythpalepkilmpiaa
