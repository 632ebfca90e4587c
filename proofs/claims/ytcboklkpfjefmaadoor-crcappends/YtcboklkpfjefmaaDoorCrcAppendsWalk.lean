/-
  lamplightlaw02.CrcAppends answers true, and turns nothing that was there: the walk.
-/
import Derived.Test.YtcboklkpfjefmaaDoorCrcByteWalk
import Derived.Test.YtcboklkpfjefmaaDoorOwn
namespace Go.Proofs.YtcboklkpfjefmaaDoor
set_option linter.unusedVariables false
set_option linter.unusedSimpArgs false
open Go.RowKit

theorem sld_take (l : List UInt8) (m : Nat) (h : l.length = m) : (sld l).take m = l := by
  subst h
  simp [sld]
theorem sld_hi {w : World} {X m : Nat} {l : List UInt8} (h : Row w X (sld l)) (hm : l.length = m) : w.cell? ⟨X, m, none⟩ = some (.int .u8 (((sum l).toNat : Int) / 256)) := by
  subst hm
  have hv := (sum l).isLt
  rw [h.cell l.length (by rw [sld_length]; omega)]
  congr 2
  simp [sld, hiB]
  omega
theorem sld_lo {w : World} {X m : Nat} {l : List UInt8} (h : Row w X (sld l)) (hm : l.length = m) : w.cell? ⟨X, m + 1, none⟩ = some (.int .u8 (((sum l).toNat : Int) % 256)) := by
  subst hm
  rw [h.cell (l.length + 1) (by rw [sld_length]; omega)]
  congr 2
  simp [sld, loB]

set_option maxHeartbeats 2000000 in
set_option maxRecDepth 100000 in
theorem appends_walk (g : Nat) (A : Option Addr) (l0 : List UInt8) (len cap : Nat) (w : World) (ht : Tab w) (h : Holds w g A (bcs l0)) (hlen : l0.length = len) (hcap : len ≤ cap) (hmx : cap ≤ 9223372036854775807) :
    Calls Tryd.prog 6 #[.slice A len cap] w fun e w' => e = .returned (.bool true) ∧ Below w.heap.size w w' := by
  obtain ⟨m, hm3, hml, hmin⟩ := min_of len 3000 3000 rfl
  obtain ⟨i0, hi, hz0, hz1, hz2⟩ := info_parts info_byte
  have hp := ht.1
  have HH := Lib.hid h
  have HL := Lib.hid hlen
  have HTB := Lib.hid ht
  clear h hlen ht
  go_enter Tryd.func6, Tryd.ntmps6
  go_wp2_with fail
  refine (shown_any w HTB.out).mono ?_
  rintro e x1 ⟨rfl, hb1⟩
  have H1 := Lib.hid (St.begin HTB.out HH.out hb1 m)
  have HLL : Hid ((l0.take m).length = m) := by show _ = _; rw [List.length_take, HL.out]; omega
  generalize l0.take m = l at *
  clear HH HL HTB hb1
  have hmc : m ≤ cap := by omega
  have H2 := Lib.hid (H1.out.alloc (.cells #[] 5))
  have he2 : (x1.alloc (.cells #[] 5)).ownsRow 0 5 1 (.slice (some ⟨x1.heap.size, 0, none⟩) 0 0) 0 [] := World.ownsRow_made x1 #[] 0 (Nat.zero_le _) (Nat.zero_le _) rfl
  have HE2 := Lib.hid he2
  clear he2
  go_upto_region 3 with (first
    | (at_builtin; refine wpList_append_holds rfl (.tmp 9) (.tmp 14) 23 rfl 5 i0 (.int .u8 0) 1 Tryd.underlying23 hi hz0 hz1 hz2 rfl (.slice (some ⟨x1.heap.size, 0, none⟩) 0 0) 0 [] rfl HE2.out g A m cap (bcs l) rfl (by rw [bcs_length]; exact HLL.out) H2.out.holds (bcs_one _) (by unfold maxLen; omega) (by omega) ?_; intro A5 c5 x5 hown5 hgrow5 hat5))
  simp only [Nat.zero_add, List.nil_append] at hown5 hat5 ⊢
  have hz1' : x1.heap.size ≤ (x1.alloc (.cells #[] 5)).heap.size := by simp
  have hb5 : Below x1.heap.size x1 x5 := ((((Ch.refl [] x1).alloc _).below (by simp)).grown hgrow5 hz1' (by intro g hg; simp [Value.ownBlock] at hg; omega))
  have H5a := Lib.hid (H1.out.step hb5)
  have HO5 : Hid (Own1 x5 x1.heap.size A5 m c5 l) := ⟨hown5, by
    intro g hg
    rw [hg] at hat5
    simp [Value.ownBlock] at hat5
    omega, HLL.out⟩
  obtain ⟨g5, hg5, hgB⟩ := HO5.out.holds
  have H5 := Lib.hid (H5a.out.hold hg5)
  have hc5 : m ≤ c5 := HO5.out.cap
  have hcv := fun (x : World) (hx : Holds x g5 A5 (bcs l)) => convert_holds (c := c5) hx HLL.out
  have HCV := Lib.hid hcv
  have hcv5 := hcv x5 hg5
  clear H1 H2 HE2 hown5 hgrow5 hat5 hb5 H5a HO5 hg5 hgB hcv hz1'
  go_wp2_with fail
  refine (append_on H5.out.tab H5.out.holds HLL.out (by omega)).mono ?_
  rintro e x6 ⟨X, hX, rfl, hrow, hb6⟩
  have H6 := Lib.hid (H5.out.step hb6)
  have HR6 := Lib.hid hrow
  have hX5 : x5.heap.size ≤ X := hX
  have HG5 : Hid (0 < (bcs l).length → g5 < X) := fun hp => Nat.lt_of_lt_of_le (H5.out.holds hp).1 hX5
  have HX : Hid (w.heap.size ≤ X) := Nat.le_trans H5.out.le hX5
  clear H5 hb6 hrow hX hcv5 hX5
  have hs1 : ((sum ([l] : List (List UInt8)).flatten).toNat : Int) = ((sum l).toNat : Int) := by
    rw [List.flatten_cons, List.flatten_nil, List.append_nil]
  have HS1 := Lib.hid hs1
  clear hs1
  go_wp2_with fail
  refine (bits_on [l] (one_part H6.out.holds HLL.out) rfl (by simp) (by simp [HLL.out]; omega) _ HS1.out).mono ?_
  rintro e x7 ⟨rfl, hb7⟩
  have H7 := Lib.hid ((H6.out.alloc _).step hb7)
  have HR7 := Lib.hid ((HR6.out.keep ((Ch.refl [] _).alloc _) (by simp)).keep (Ch.of_below hb7) (by simp))
  clear H6 HR6 hb7 HS1
  have hv : (sum l).toNat < 65536 := (sum l).isLt
  have HCX := Lib.hid (fun (x : World) (hx : Row x X (sld l)) => convert_holds (c := m + 2) (n := m) (l := (sld l).take m) (g := X) (A := some ⟨X, 0, none⟩) (w := x) (by
    rw [show bcs ((sld l).take m) = (bcs (sld l)).take m by simp [bcs]]
    exact hx.holds.take m) (by rw [List.length_take, sld_length, HLL.out]; omega))
  have hcx := HCX.out x7 HR7.out
  rw [sld_take l m HLL.out] at hcx
  go_wp2_with fail
  refine (valid_on H7.out.tab HR7.out.holds (by rw [sld_length, HLL.out]) (Nat.le_refl _) (by omega) true (valid_sld l)).mono ?_
  rintro e x8 ⟨rfl, hb8⟩
  have H8 := Lib.hid (H7.out.step hb8)
  have HR8 := Lib.hid (HR7.out.keep (Ch.of_below hb8) (by simp))
  clear H7 HR7 hb8 hcx
  have hhi := sld_hi HR8.out HLL.out
  have hlo := sld_lo HR8.out HLL.out
  generalize (sum l).toNat = v at *
  go_wp2
  clear hhi hlo
  go_loopw [7] (fun i wr => ∃ j : Nat, j ≤ m + 2 ∧ i = .int .i64 j ∧ ∃ ys : List UInt8, Hid (Sx w X ys wr) ∧ Hid (ys.length = m + 2) ∧ Hid (Holds wr g5 A5 (bcs l))) (fun i _ => m + 2 - (intOf i).toNat)
  case atStart => exact ⟨0, by omega, rfl, sld l, ⟨H8.out.tab, HR8.out, H8.out.below, HX.out, hp⟩, (by show _ = _; rw [sld_length, HLL.out]), H8.out.holds⟩
  case round =>
    obtain ⟨j, hj, rfl, ys, HY, HYL, HHY⟩ := hrel
    by_cases hlt : j < m + 2
    · have hc := HY.out.cell j (by rw [HYL.out]; exact hlt)
      have hf := HY.out.frozen j
      have hlt' : (j : Int) < (m : Int) + 2 := by omega
      have HN : Hid (Holds (World.setCell _ ⟨X, j, none⟩ (.int .u8 33)) g5 A5 (bcs l)) := HHY.out.keep (F := [X]) ((Ch.refl [X] _).setCell (fun _ => by simp) _) (fun hp => by have := HG5.out hp; simp; omega)
      have HY2 := Lib.hid (HY.out.set j 33 33 (by decide))
      clear HY HHY
      go_wp2
      go_roundw
      case rel => exact ⟨j + 1, by omega, by go_num, ys.set j 33, HY2, (by show _ = _; rw [List.length_set]; exact HYL.out), HN⟩
      case measure => simp [intOf]; omega
    · have hjj : j = m + 2 := by omega
      subst hjj
      have hcv := HCV.out _ HHY.out
      have HST : Hid (St w.heap.size w g5 A5 l _) := ⟨HY.out.tab, HHY.out, HY.out.below, HY.out.below.size⟩
      clear HY HHY HYL
      go_wp2_with fail
      refine (append_on HST.out.tab HST.out.holds HLL.out (by omega)).mono ?_
      rintro e x9 ⟨Y, hY, rfl, hrow9, hb9⟩
      have H9 := Lib.hid (HST.out.step hb9)
      have HR9 := Lib.hid hrow9
      clear HST hb9 hrow9 hcv hY
      go_wp2_with fail
      refine (append_on (l := sld l) H9.out.tab HR9.out.holds (by rw [sld_length, HLL.out]) (by omega)).mono ?_
      rintro e x10 ⟨Z, hZ, rfl, hrow10, hb10⟩
      have H10 := Lib.hid (H9.out.step hb10)
      have HR10 := Lib.hid hrow10
      clear H9 HR9 hb10 hrow10 hZ
      go_wp2_with fail
      refine (valid_on H10.out.tab HR10.out.holds (by rw [sld_length, sld_length, HLL.out]) (Nat.le_refl _) (by omega) true (valid_sld _)).mono ?_
      rintro e x11 ⟨rfl, hb11⟩
      have H11 := Lib.hid (H10.out.step hb11)
      clear H10 HR10 hb11
      go_wp2
      go_ret
      exact ⟨rfl, H11.out.below⟩

end Go.Proofs.YtcboklkpfjefmaaDoor
