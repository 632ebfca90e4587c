/-
  lamplightlaw03.StuffTells answers true, and turns nothing that was there, if the two calls keep their contracts: the walk.
-/
import Derived.Test.YtplccbficpjlnaaStuffShown
import Derived.Test.YtplccbficpjlnaaEager
namespace Go.Proofs.Ytplccbficpjlnaa
set_option linter.unusedVariables false
set_option linter.unusedSimpArgs false
open Go.RowKit

theorem Own1.far {w : World} {B g j : Nat} {A : Option Addr} {n c : Nat} {l : List UInt8} (h : Own1 w B A n c l) (hg : g < B) (v : Value) : Own1 (w.setCell ⟨g, j, none⟩ v) B A n c l :=
  ⟨own_ch h.own ((Ch.refl [g] w).setCell (fun _ => by simp) v) (fun k hk hm => by have := h.from_ k hk; simp at hm; omega), h.from_, h.len⟩
theorem Kp.set {B : Nat} {w x : World} {g : Nat} {A : Option Addr} {l : List UInt8} (h : Kp B w g A l x) {k j : Nat} (hg : 0 < (bcs l).length → g < k) (hB : B ≤ k) (v : Value) : Kp B w g A l (x.setCell ⟨k, j, none⟩ v) :=
  ⟨h.holds.keep (F := [k]) ((Ch.refl [k] _).setCell (fun _ => by simp) _) (fun hp => by have := hg hp; simp; omega), h.below.setCell hB _, by simpa using h.le⟩

set_option maxHeartbeats 4000000 in
set_option maxRecDepth 100000 in
theorem tells_walk (hS : StuffOn) (hU : UnstuffOn) (g : Nat) (A : Option Addr) (l0 : List UInt8) (len cap : Nat) (w : World) (h : Holds w g A (bcs l0)) (hlen : l0.length = len) (hcap : len ≤ cap) (hmx : cap ≤ 9223372036854775807) :
    Calls Try.prog 3 #[.slice A len cap] w fun e w' => e = .returned (.bool true) ∧ Below w.heap.size w w' := by
  obtain ⟨m, hm3, hml, hmin⟩ := min_of len 3000 3000 rfl
  obtain ⟨i0, hi, hz0, hz1, hz2⟩ := info_parts info_byte
  have HS := Lib.hid hS
  have HU := Lib.hid hU
  have HH := Lib.hid h
  have HL := Lib.hid hlen
  clear h hlen hS hU
  go_enter Try.func3, Try.ntmps3
  go_wp2_with fail
  refine (shown_any HS.out HU.out w).mono ?_
  rintro e x1 ⟨rfl, hb1⟩
  have K1 := Lib.hid (Kp.begin HH.out hb1 m)
  have HLL : Hid ((l0.take m).length = m) := by show _ = _; rw [List.length_take, HL.out]; omega
  generalize l0.take m = l at *
  clear HH HL hb1
  have hmc : m ≤ cap := by omega
  have K2 := Lib.hid (K1.out.alloc (.cells #[] 5))
  have HE2 := Lib.hid (Own1.empty x1)
  have HZ2 : Hid (x1.heap.size ≤ (x1.alloc (.cells #[] 5)).heap.size) := by show _ ≤ _; simp
  go_upto_region 3 with (first
    | (at_builtin; refine wpList_append_holds rfl (.tmp 13) (.tmp 18) 22 rfl 5 i0 (.int .u8 0) 1 Try.underlying22 hi hz0 hz1 hz2 rfl (.slice (some ⟨x1.heap.size, 0, none⟩) 0 0) 0 [] rfl HE2.out.own g A m cap (bcs l) rfl (by rw [bcs_length]; exact HLL.out) K2.out.holds (bcs_one _) (by unfold maxLen; omega) (by omega) ?_; intro A5 c5 x5 hown5 hgrow5 hat5))
  simp only [Nat.zero_add, List.nil_append] at hown5 hat5 ⊢
  obtain ⟨ho5, hb5⟩ := HE2.out.grown HZ2.out hgrow5 hown5 HLL.out hat5
  have hb5' : Below x1.heap.size x1 x5 := (((Ch.refl [] x1).alloc _).below (by simp)).trans hb5
  obtain ⟨g5, hg5, _⟩ := ho5.holds
  have K5 : Hid (Kp w.heap.size w g5 A5 l x5) := ⟨hg5, (K1.out.step hb5').below, (K1.out.step hb5').le⟩
  have hc5 : m ≤ c5 := ho5.cap
  have HCV := Lib.hid (fun (x : World) (hx : Holds x g5 A5 (bcs l)) => convert_holds (c := c5) hx HLL.out)
  have hcv5 := HCV.out x5 hg5
  clear K1 K2 HE2 HZ2 hown5 hgrow5 hat5 ho5 hb5 hb5' hg5
  go_wp2_with fail
  refine (HS.out g5 A5 m c5 l x5 K5.out.holds HLL.out hc5 (by omega)).mono ?_
  rintro e x6 ⟨A6, n6, c6, rfl, ho6, hb6⟩
  have K6 := Lib.hid (K5.out.step hb6)
  have HG5 : Hid (0 < (bcs l).length → g5 < x5.heap.size) := fun hp => (K5.out.holds hp).1
  have HW5 : Hid (w.heap.size ≤ x5.heap.size) := K5.out.le
  have HX6 := Lib.hid ho6
  have HXL : Hid (∀ gx, (Value.slice A6 n6 c6).ownBlock = some gx → gx < x6.heap.size) := fun gx hgx => (ho6.own.lt gx hgx).2
  have h56 : x5.heap.size ≤ x6.heap.size := hb6.size
  have H56 := Lib.hid h56
  clear K5 hcv5 ho6 hb6 h56
  go_wp2_with fail
  refine (HU.out g5 A5 m c5 l x6 K6.out.holds HLL.out hc5 (by omega)).mono ?_
  rintro e x7 ⟨A7, n7, c7, rfl, ho7, hb7⟩
  have K7 := Lib.hid (K6.out.step hb7)
  replace HX6 := Lib.hid (HX6.out.step hb7)
  have HY7 := Lib.hid ho7
  clear K6 ho7 hb7
  go_wp2_with fail
  refine (ref_unstuff l x7 (by have := HLL.out; omega)).mono ?_
  rintro e x8 ⟨rfl, hb8⟩
  have K8 := Lib.hid (K7.out.step hb8).drew
  have HD8 : Hid (Below x8.heap.size x8 x8.drew) := ((Ch.refl [] x8).drew).below (by simp)
  replace HX6 := Lib.hid ((HX6.out.step hb8).step HD8.out)
  replace HY7 := Lib.hid ((HY7.out.step hb8).step HD8.out)
  clear K7 hb8 HD8
  have hn6 : n6 ≤ 6000 := by have h1 := stf_length_le l; rw [HX6.out.len, HLL.out] at h1; omega
  have hn7 : n7 ≤ 3000 := by have h1 := uOut_le l; rw [HY7.out.len, HLL.out] at h1; omega
  obtain ⟨er, her⟩ : ∃ er, uErr l = er := ⟨_, rfl⟩
  rw [her]
  clear her
  go_upto_region 7 with (fail)
  refine region_plan [(true, 0), (true, 1), (true, 2), (false, 3), (true, 4), (true, 5), (true, 6), (true, 7), (true, 8), (true, 9), (true, 10), (true, 11), (true, 12), (true, 13), (true, 14), (true, 15)]
    (fun x => (convert 22 9 (.slice A6 n6 c6)).run Try.prog x = .ok (.string ⟨(stf l).toArray⟩) x ∧ (convert 22 9 (.slice A7 n7 c7)).run Try.prog x = .ok (.string ⟨(uOut l).toArray⟩) x) (by kernel_rfl) (by kernel_rfl) (by kernel_rfl) rfl ⟨HX6.out.cv, HY7.out.cv⟩ ?_
  generalize World.drew _ = y0 at *
  iterate 3 (refine Plan.take (v := ?_) rfl (by rfl) ?_ ?_; rotate_left 1; (focus (intro x hx; go_simp <;> (first | with_reducible rfl | rw [if_pos (by omega)]))); simp only [Act.put, List.setIfInBounds_toArray, List.set_cons_zero, List.set_cons_succ])
  refine Plan.loud rfl (fun K hK => ?_)
  go_simp
  refine (ref_stuff l y0 (by have := HLL.out; omega)).mono ?_
  rintro e y1 ⟨rfl, rfl⟩
  refine hK.out _ _ _ (fun x hx => hx) ⟨HX6.out.cv, HY7.out.cv⟩ ?_
  clear hK K
  iterate 12 (refine Plan.take (v := ?_) rfl (by rfl) ?_ ?_; rotate_left 1; (focus (intro x hx; go_simp <;> (first | with_reducible rfl | rw [if_pos (by omega)]))); simp only [Act.put, List.setIfInBounds_toArray, List.set_cons_zero, List.set_cons_succ])
  refine Plan.done ?_
  go_wp2
  go_loopw [10] (fun i wr => ∃ j : Nat, j ≤ n6 ∧ i = .int .i64 j ∧ ∃ ys, Hid (Own1 wr x5.heap.size A6 n6 c6 ys) ∧ Hid (Own1 wr x6.heap.size A7 n7 c7 (uOut l)) ∧ Hid (Kp w.heap.size w g5 A5 l wr)) (fun i _ => n6 - (intOf i).toNat)
  case atStart => exact ⟨0, by omega, rfl, _, HX6, HY7, K8⟩
  case round =>
    obtain ⟨j, hj, rfl, ys, HX, HY, HK⟩ := hrel
    by_cases hlt : j < n6
    · have hjl : j < ys.length := by rw [HX.out.len]; exact hlt
      obtain ⟨gx, hA, hBg, hgl, hcell, hfr, hset⟩ := HX.out.at j hjl
      have hgx6 : gx < x6.heap.size := HXL.out gx (by rw [hA]; rfl)
      have HX2 := Lib.hid (hset 33)
      have HY2 := Lib.hid (HY.out.far (j := j) hgx6 (.int .u8 33))
      have HK2 := Lib.hid (HK.out.set (k := gx) (j := j) (fun hp => by have := HG5.out hp; omega) (by have := HW5.out; omega) (.int .u8 33))
      subst hA
      have hlt' : (j : Int) < (n6 : Int) := by omega
      generalize ys[j].toNat = bj at *
      clear HX HY HK hset
      go_wp2
      go_roundw
      case rel => exact ⟨j + 1, by omega, by go_num, _, HX2, HY2, HK2⟩
      case measure => simp [intOf]; omega
    · have hjn : j = n6 := by omega
      subst hjn
      go_wp2
      go_loopw [11] (fun i wr => ∃ j : Nat, j ≤ n7 ∧ i = .int .i64 j ∧ ∃ ys, Hid (Own1 wr x6.heap.size A7 n7 c7 ys) ∧ Hid (Kp w.heap.size w g5 A5 l wr)) (fun i _ => n7 - (intOf i).toNat)
      case atStart => exact ⟨0, by omega, rfl, _, HY, HK⟩
      case round =>
        obtain ⟨q, hq, rfl, zs, HZ, HK⟩ := hrel
        by_cases hlt : q < n7
        · have hql : q < zs.length := by rw [HZ.out.len]; exact hlt
          obtain ⟨gy, hA, hBg, hgl, hcell, hfr, hset⟩ := HZ.out.at q hql
          have HZ2 := Lib.hid (hset 33)
          have HK2 := Lib.hid (HK.out.set (k := gy) (j := q) (fun hp => by have := HG5.out hp; have := H56.out; omega) (by have := HW5.out; have := H56.out; omega) (.int .u8 33))
          subst hA
          have hlt' : (q : Int) < (n7 : Int) := by omega
          generalize zs[q].toNat = bq at *
          clear HZ HK hset
          go_wp2
          go_roundw
          case rel => exact ⟨q + 1, by omega, by go_num, _, HZ2, HK2⟩
          case measure => simp [intOf]; omega
        · have hqn : q = n7 := by omega
          subst hqn
          have hcvE := HCV.out _ HK.out.holds
          go_wp2
          go_ret
          exact ⟨rfl, HK.out.below⟩

end Go.Proofs.Ytplccbficpjlnaa
