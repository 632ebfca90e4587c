/-
  lamplightlaw03.StuffTwice answers true, and turns nothing that was there, if the two calls keep their contracts: the walk.
-/
import Derived.Test.YtplccbficpjlnaaStuffShown
namespace Go.Proofs.Ytplccbficpjlnaa
set_option linter.unusedVariables false
set_option linter.unusedSimpArgs false
open Go.RowKit

/-- Stuffed so often. -/
def stfN : Nat → List UInt8 → List UInt8
  | 0, l => l
  | n + 1, l => stf (stfN n l)
theorem stfN_le : ∀ (n : Nat) (l : List UInt8), (stfN n l).length ≤ 2 ^ n * l.length
  | 0, l => by simp [stfN]
  | n + 1, l => by
    have h1 := stf_length_le (stfN n l)
    have h2 := stfN_le n l
    have h3 : 2 ^ (n + 1) * l.length = 2 * (2 ^ n * l.length) := by rw [Nat.pow_succ]; simp [Nat.mul_comm, Nat.mul_left_comm]
    show (stf (stfN n l)).length ≤ _
    omega
theorem stfN_bound (n : Nat) (l : List UInt8) (hn : n ≤ 5) (hl : l.length ≤ 500) : (stfN n l).length ≤ 16000 := by
  have h1 := stfN_le n l
  have h2 : 2 ^ n ≤ 2 ^ 5 := Nat.pow_le_pow_right (by omega) hn
  have h3 : 2 ^ n * l.length ≤ 2 ^ 5 * 500 := Nat.mul_le_mul h2 hl
  omega

/-- A slice that holds bytes, as a variable of a law has it. -/
structure Sl (v : Value) (l : List UInt8) (w : World) : Prop where
  ex : ∃ g A n c, v = .slice A n c ∧ Holds w g A (bcs l) ∧ l.length = n ∧ n ≤ c
theorem Sl.step {v : Value} {l : List UInt8} {w w' : World} (h : Sl v l w) (hb : Below w.heap.size w w') : Sl v l w' := by
  obtain ⟨g, A, n, c, h1, h2, h3, h4⟩ := h.ex
  exact ⟨g, A, n, c, h1, h2.keep (Ch.of_below hb) (by simp), h3, h4⟩
theorem Own1.sl {w : World} {B : Nat} {A : Option Addr} {n c : Nat} {l : List UInt8} (h : Own1 w B A n c l) : Sl (.slice A n c) l w := by
  obtain ⟨g, hg, _⟩ := h.holds
  exact ⟨g, A, n, c, rfl, hg, h.len, h.cap⟩

set_option maxHeartbeats 4000000 in
set_option maxRecDepth 100000 in
theorem twice_walk (hS : StuffOn) (hU : UnstuffOn) (g : Nat) (A : Option Addr) (l0 : List UInt8) (len cap : Nat) (x : Int) (w : World) (h : Holds w g A (bcs l0)) (hlen : l0.length = len) (hcap : len ≤ cap) (hmx : cap ≤ 9223372036854775807) :
    Calls Try.prog 9 #[.slice A len cap, .int .i64 x] w fun e w' => e = .returned (.bool true) ∧ Below w.heap.size w w' := by
  obtain ⟨m, hm3, hml, hmin⟩ := min_of len 500 500 rfl
  obtain ⟨q, hq, hqt, hqt'⟩ := place_at x 5 (by omega)
  rw [show ((5 : Nat) : Int) = 5 from rfl] at hqt hqt'
  have HS := Lib.hid hS
  have HU := Lib.hid hU
  have HH := Lib.hid h
  have HL := Lib.hid hlen
  clear h hlen hS hU
  go_enter Try.func9, Try.ntmps9
  go_wp2_with fail
  refine (shown_any HS.out HU.out w).mono ?_
  rintro e x1 ⟨rfl, hb1⟩
  have K1 := Lib.hid (Kp.begin HH.out hb1 m)
  have HLL : Hid ((l0.take m).length = m) := by show _ = _; rw [List.length_take, HL.out]; omega
  generalize l0.take m = l at *
  clear HH HL hb1
  have hmc : m ≤ cap := by omega
  go_wp2
  go_loopw [6, 7] (fun v i wr => ∃ k : Nat, k ≤ q ∧ i = .int .i64 k ∧ Hid (Sl v (stfN k l) wr) ∧ Hid (Kp w.heap.size w g A l wr)) (fun _ i _ => q - (intOf i).toNat)
  case atStart => exact ⟨0, by omega, rfl, ⟨g, A, m, cap, rfl, K1.out.holds, HLL.out, hmc⟩, K1⟩
  case round =>
    obtain ⟨k, hk, rfl, HV, HK⟩ := hrel
    by_cases hlt : k < q
    · obtain ⟨gx, Ax, nx, cx, rfl, hx1, hx2, hx3⟩ := HV.out.ex
      have HX1 := Lib.hid hx1
      have hnb := stfN_bound k l (by omega) (by rw [HLL.out]; omega)
      have hlt' : (k : Int) < (q : Int) := by omega
      clear hx1 HV
      go_wp2_with fail
      refine (HS.out gx Ax nx cx _ wr HX1.out hx2 hx3 (by omega)).mono ?_
      rintro e y1 ⟨A2, n2, c2, rfl, ho2, hb2⟩
      have HK2 := Lib.hid (HK.out.step hb2)
      have HV2 := Lib.hid ho2.sl
      clear ho2 hb2 HK HX1
      go_wp2
      go_roundw
      case rel => exact ⟨k + 1, by omega, by go_num, HV2, HK2⟩
      case measure => simp [intOf]; omega
    · have hkq : k = q := by omega
      subst hkq
      go_wp2
      go_loopw [6, 8] (fun v i wr => ∃ j : Nat, j ≤ k ∧ i = .int .i64 j ∧ Hid (Sl v (stfN (k - j) l) wr) ∧ Hid (Kp w.heap.size w g A l wr)) (fun _ i _ => k - (intOf i).toNat)
      case atStart => exact ⟨0, by omega, rfl, HV, HK⟩
      case round =>
        obtain ⟨j, hj, rfl, HV, HK⟩ := hrel
        by_cases hlt : j < k
        · obtain ⟨gx, Ax, nx, cx, rfl, hx1, hx2, hx3⟩ := HV.out.ex
          have hnb := stfN_bound (k - j) l (by omega) (by rw [HLL.out]; omega)
          obtain ⟨r, hr⟩ : ∃ r, k - j = r + 1 := ⟨k - j - 1, by omega⟩
          have hr2 : k - (j + 1) = r := by omega
          rw [hr] at hx1 hx2 hnb
          have HX1 := Lib.hid hx1
          have HR2 := Lib.hid hr2
          have hge := stf_length_ge (stfN r l)
          have hu := unst_stf (stfN r l)
          have hlt' : (j : Int) < (k : Int) := by omega
          clear hx1 HV hr hr2
          go_wp2_with fail
          refine (HU.out gx Ax nx cx (stf (stfN r l)) wr HX1.out hx2 hx3 (by omega)).mono ?_
          rintro e y1 ⟨A2, n2, c2, rfl, ho2, hb2⟩
          rw [uErr_ok hu]
          rw [uOut_ok hu] at ho2
          have HK2 := Lib.hid (HK.out.step hb2)
          have HV2 := Lib.hid ho2.sl
          have hn2 := ho2.len
          have hnx : (stf (stfN r l)).length = nx := hx2
          have hno : ¬ nx < n2 := by omega
          rw [← HR2.out] at HV2
          clear ho2 hb2 HK HX1 hu hx2 hnb hge hn2 hnx
          go_wp2
          go_roundw
          case rel => exact ⟨j + 1, by omega, by go_num, HV2, HK2⟩
          case measure => simp [intOf]; omega
        · have hjk : j = k := by omega
          subst hjk
          rw [Nat.sub_self] at HV
          obtain ⟨gx, Ax, nx, cx, rfl, hx1, hx2, hx3⟩ := HV.out.ex
          have hx1' : Holds wr gx Ax (bcs l) := hx1
          have hx2' : l.length = nx := hx2
          have HX1 := Lib.hid hx1'
          have hnm : nx = m := by rw [← hx2', HLL.out]
          subst hnm
          clear hx1 hx2 hx1' hx2' HV
          go_wp2_with fail
          refine (HU.out gx Ax nx cx l wr HX1.out HLL.out hx3 (by omega)).mono ?_
          rintro e y1 ⟨A2, n2, c2, rfl, ho2, hb2⟩
          have HK2 := Lib.hid (HK.out.step hb2)
          have hcx := convert_holds (c := cx) (HX1.out.keep (Ch.of_below hb2) (by simp)) HLL.out
          have hcb := convert_holds (c := cap) HK2.out.holds HLL.out
          have HO2 := Lib.hid ho2
          clear ho2 hb2 HK HX1
          cases hu : unst l with
          | ok z =>
            rw [uErr_ok hu]
            rw [uOut_ok hu] at HO2
            have hzl := unst_length l z hu
            have hn2 : n2 ≤ nx := by rw [← HO2.out.len, ← HLL.out]; exact hzl
            clear hu HO2 hzl
            go_wp2
            go_ret
            exact ⟨rfl, HK2.out.below⟩
          | error er =>
            rw [uErr_error hu]
            rw [uOut_error hu] at HO2
            have hn2 : n2 = 0 := by rw [← HO2.out.len]; rfl
            subst hn2
            have hne : ((er : Int) != 0) = true := by
              rcases unst_error _ l er (Nat.le_refl _) hu with rfl | rfl <;> rfl
            clear hu HO2
            go_wp2
            go_ret
            exact ⟨rfl, HK2.out.below⟩

end Go.Proofs.Ytplccbficpjlnaa
