/-
  lamplightlaw11.ModuleBytes, walked: true, under the conditions on module's calls.
-/
import Derived.Test.YtdcnmbglbopgdaaModU
import Derived.Test.YtdcnmbglbopgdaaModuleSameWalk
import Derived.Deep.DeepCutAuto
namespace Go.Proofs.Ytdcnmbglbopgdaa
set_option linter.unusedVariables false
set_option linter.unusedSimpArgs false
open Go.RowKit

theorem three_at {y : World} {Y t : Nat} {a b c : Value} (h : y.heap[Y]? = some (.cells #[a, b, c] t (0, 0))) : y.cell? ⟨Y, 0, none⟩ = some a ∧ y.cell? ⟨Y, 1, none⟩ = some b ∧ y.cell? ⟨Y, 2, none⟩ = some c := by
  refine ⟨?_, ?_, ?_⟩ <;> simp [World.cell?, h]
theorem parse_of {k t q : Nat} (hk : k < 256) (ht : t < 65536) (hq : q < 65536) : ∃ a b c e, parse5 (txt5 k t q) = (a, b, c, e) ∧ (((k = 1 ∨ k = 2) ∧ a = k ∧ b = t ∧ c = q ∧ e = 0) ∨ (¬ (k = 1 ∨ k = 2) ∧ a = 0 ∧ b = 0 ∧ c = 0 ∧ e = 3)) := by
  by_cases h : k = 1 ∨ k = 2
  · exact ⟨k, t, q, 0, parse_txt h ht hq, .inl ⟨h, rfl, rfl, rfl, rfl⟩⟩
  · refine ⟨0, 0, 0, 3, ?_, .inr ⟨h, rfl, rfl, rfl, rfl⟩⟩
    have h1 : (UInt8.ofNat k).toNat = k := by simp; omega
    unfold txt5 parse5
    simp only
    rw [h1, if_neg h]
theorem bytes_kept {z : World} {C gx gy cx cy kc tc qc ke te qe t1 t2 : Nat} (hx : Holds z gx (some ⟨gx, 0, none⟩) (bcs (txt5 kc tc qc))) (hy : Holds z gy (some ⟨gy, 0, none⟩) (bcs (txt5 ke te qe)))
    (h1 : z.heap[C]? = some (.cells #[.int .u8 (kc : Int), .int .u16 (tc : Int), .int .u16 (qc : Int)] t1 (0, 0))) (h2 : z.heap[C + 1]? = some (.cells #[.int .u8 (ke : Int), .int .u16 (te : Int), .int .u16 (qe : Int)] t2 (0, 0))) :
    (convert 34 9 (.slice (some ⟨gx, 0, none⟩) 5 cx)).run Try.prog z = .ok (.string ⟨(txt5 kc tc qc).toArray⟩) z ∧ (convert 34 9 (.slice (some ⟨gy, 0, none⟩) 5 cy)).run Try.prog z = .ok (.string ⟨(txt5 ke te qe).toArray⟩) z ∧ z.cell? ⟨C, 0, none⟩ = some (.int .u8 (kc : Int)) ∧ z.cell? ⟨C, 1, none⟩ = some (.int .u16 (tc : Int)) ∧ z.cell? ⟨C, 2, none⟩ = some (.int .u16 (qc : Int)) ∧ z.cell? ⟨C + 1, 0, none⟩ = some (.int .u8 (ke : Int)) ∧ z.cell? ⟨C + 1, 1, none⟩ = some (.int .u16 (te : Int)) ∧ z.cell? ⟨C + 1, 2, none⟩ = some (.int .u16 (qe : Int)) :=
  ⟨convert_holds hx (txt5_len _ _ _), convert_holds hy (txt5_len _ _ _), by simp [World.cell?, h1], by simp [World.cell?, h1], by simp [World.cell?, h1], by simp [World.cell?, h2], by simp [World.cell?, h2], by simp [World.cell?, h2]⟩
theorem kept_at {y z : World} {Y : Nat} {o : Obj} (hb : Below y.heap.size y z) (h : y.heap[Y]? = some o) : z.heap[Y]? = some o := (hb.block Y (Array.getElem?_eq_some_iff.1 h).1).trans h
set_option maxRecDepth 20000 in
set_option maxHeartbeats 6400000 in
theorem modulebytes_walk {Mp : World → List Nat → Nat → Mo → Prop} (MC : ModCond Mp) {g n c kc tc qc ke te qe : Nat} {A : Option Addr} {l : List UInt8} {w : World} (h : Holds w g A (bcs l)) (hn : l.length = n) (hc : n ≤ c) (hcm : c ≤ 9223372036854775807) (h1 : kc < 256) (h2 : tc < 65536) (h3 : qc < 65536) (h4 : ke < 256) (h5 : te < 65536) (h6 : qe < 65536) :
    Calls Try.prog 4 #[.agg #[.int .u8 (kc : Int), .int .u16 (tc : Int), .int .u16 (qc : Int)], .agg #[.int .u8 (ke : Int), .int .u16 (te : Int), .int .u16 (qe : Int)], .slice A n c] w fun e w' => e = .returned (.bool true) ∧ Below w.heap.size w w' := by
  obtain ⟨k, hk⟩ : ∃ k, min n 40 = k := ⟨_, rfl⟩
  have hkn : k ≤ n := by omega
  have hk4 : k ≤ 40 := by omega
  have hm1 : min (n : Int) 40 = (k : Int) := by omega
  have hm2 : (if (n : Int) < 40 then (n : Int) else 40) = (k : Int) := by split <;> omega
  have hm3 : (if (40 : Int) < (n : Int) then 40 else (n : Int)) = (k : Int) := by split <;> omega
  have hbw : Below w.heap.size w ((w.alloc (.cells #[.int .u8 (kc : Int), .int .u16 (tc : Int), .int .u16 (qc : Int)] 60)).alloc (.cells #[.int .u8 (ke : Int), .int .u16 (te : Int), .int .u16 (qe : Int)] 61)) := (((Ch.refl [] w).alloc _).alloc _).below (by simp)
  have hcw := heap_alloc2_old w (.cells #[.int .u8 (kc : Int), .int .u16 (tc : Int), .int .u16 (qc : Int)] 60) (.cells #[.int .u8 (ke : Int), .int .u16 (te : Int), .int .u16 (qe : Int)] 61)
  have hew := heap_alloc2_new w (.cells #[.int .u8 (kc : Int), .int .u16 (tc : Int), .int .u16 (qc : Int)] 60) (.cells #[.int .u8 (ke : Int), .int .u16 (te : Int), .int .u16 (qe : Int)] 61)
  have HMC := Lib.hid MC
  have HH : Hid (Holds w g A (bcs (l.take k))) := Lib.hid (by rw [bcs_take]; exact h.take k)
  have HL : Hid ((l.take k).length = k) := Lib.hid (by rw [List.length_take]; omega)
  have HBW := Lib.hid hbw
  have HCW := Lib.hid hcw
  have HEW := Lib.hid hew
  clear MC h hn hk hbw hcw hew
  go_enter Try.func4, Try.ntmps4
  go_wp2_with fail
  generalize (w.alloc (.cells #[.int .u8 (kc : Int), .int .u16 (tc : Int), .int .u16 (qc : Int)] 60)).alloc (.cells #[.int .u8 (ke : Int), .int .u16 (te : Int), .int .u16 (qe : Int)] 61) = y0 at *
  refine (shown_on HMC.out _).mono ?_
  rintro e y1 ⟨rfl, hb⟩
  have HB1 := Lib.hid (HBW.out.trans (hb.mono HBW.out.size))
  have HC1 := Lib.hid (kept_at hb HCW.out)
  have HE1 := Lib.hid (kept_at hb HEW.out)
  obtain ⟨c0, c1, c2⟩ := three_at HC1.out
  clear hb HBW HCW HEW
  go_wp2_with fail
  refine (HMC.out.cbytes h1 h2 h3).mono ?_
  rintro e y2 ⟨Ax, cx, rfl, ho, hb⟩
  obtain ⟨gx, rfl, gx1, gx2, hx, hxc, hxm⟩ := own_at ho (by omega)
  have HB2 := Lib.hid (HB1.out.trans (hb.mono HB1.out.size))
  have HX2 := Lib.hid hx
  have HE2 := Lib.hid (kept_at hb HE1.out)
  have HC2 := Lib.hid (kept_at hb HC1.out)
  obtain ⟨d0, d1, d2⟩ := three_at HE2.out
  clear hb ho hx HC1 HE1 c0 c1 c2 HB1 gx1
  go_wp2_with fail
  refine (HMC.out.ebytes h4 h5 h6).mono ?_
  rintro e y3 ⟨Ay, cy, rfl, ho, hb⟩
  obtain ⟨gy, rfl, gy1, gy2, hy, hyc, hym⟩ := own_at ho (by omega)
  have HB3 := Lib.hid (HB2.out.trans (hb.mono HB2.out.size))
  have gx3 : gx < y3.heap.size := Nat.lt_of_lt_of_le gx2 hb.size
  have HX3 := Lib.hid (HX2.out.same (fun _ => hb.block gx gx2))
  have HY3 := Lib.hid hy
  have HE3 := Lib.hid (kept_at hb HE2.out)
  have HC3 := Lib.hid (kept_at hb HC2.out)
  clear hb ho hy d0 d1 d2 HX2 HC2 HE2 HB2 gy1 gx2
  go_wp2_with fail
  refine (HMC.out.cparse HX3.out (txt5_len _ _ _) hxc hxm (by omega)).mono ?_
  rintro e y4 ⟨rfl, hb⟩
  obtain ⟨pk, pt, pq, pe, hp, hpc⟩ := parse_of h1 h2 h3
  rw [hp]
  have HPC := Lib.hid hpc
  have hb' := hb.trans ((new_below y4 (.cells #[.int .u8 (pk : Int), .int .u16 (pt : Int), .int .u16 (pq : Int)] 60)).mono hb.size)
  have HP4 := Lib.hid (heap_alloc_new y4 (.cells #[.int .u8 (pk : Int), .int .u16 (pt : Int), .int .u16 (pq : Int)] 60))
  have gx4 : gx < (y4.alloc (.cells #[.int .u8 (pk : Int), .int .u16 (pt : Int), .int .u16 (pq : Int)] 60)).heap.size := Nat.lt_of_lt_of_le gx3 hb'.size
  have gy4 : gy < (y4.alloc (.cells #[.int .u8 (pk : Int), .int .u16 (pt : Int), .int .u16 (pq : Int)] 60)).heap.size := Nat.lt_of_lt_of_le gy2 hb'.size
  have HB4 := Lib.hid (HB3.out.trans (hb'.mono HB3.out.size))
  have HX4 := Lib.hid (HX3.out.same (fun _ => hb'.block gx gx3))
  have HY4 := Lib.hid (HY3.out.same (fun _ => hb'.block gy gy2))
  have HE4 := Lib.hid (kept_at hb' HE3.out)
  have HC4 := Lib.hid (kept_at hb' HC3.out)
  clear hb hb' hp hpc HX3 HY3 HE3 HC3 HB3 gx3 gy2
  go_upto_region 6 with fail
  generalize y4.alloc (.cells #[.int .u8 (pk : Int), .int .u16 (pt : Int), .int .u16 (pq : Int)] 60) = z4 at *
  generalize y4.heap.size = P4 at *
  go_wp2_with fail
  refine (HMC.out.eparse HY4.out (txt5_len _ _ _) hyc hym (by omega)).mono ?_
  rintro e y5 ⟨rfl, hb⟩
  obtain ⟨rk, rt, rq, re, hp, hpe⟩ := parse_of h4 h5 h6
  rw [hp]
  have HPE := Lib.hid hpe
  have hb' := hb.trans ((new_below y5 (.cells #[.int .u8 (rk : Int), .int .u16 (rt : Int), .int .u16 (rq : Int)] 61)).mono hb.size)
  have HR5 := Lib.hid (heap_alloc_new y5 (.cells #[.int .u8 (rk : Int), .int .u16 (rt : Int), .int .u16 (rq : Int)] 61))
  have HB5 := Lib.hid (HB4.out.trans (hb'.mono HB4.out.size))
  have HX5 := Lib.hid (HX4.out.same (fun _ => hb'.block gx gx4))
  have HY5 := Lib.hid (HY4.out.same (fun _ => hb'.block gy gy4))
  have HE5 := Lib.hid (kept_at hb' HE4.out)
  have HC5 := Lib.hid (kept_at hb' HC4.out)
  have HP5 := Lib.hid (kept_at hb' HP4.out)
  have gx5 : gx < (y5.alloc (.cells #[.int .u8 (rk : Int), .int .u16 (rt : Int), .int .u16 (rq : Int)] 61)).heap.size := Nat.lt_of_lt_of_le gx4 hb'.size
  have gy5 : gy < (y5.alloc (.cells #[.int .u8 (rk : Int), .int .u16 (rt : Int), .int .u16 (rq : Int)] 61)).heap.size := Nat.lt_of_lt_of_le gy4 hb'.size
  clear hb hb' hp hpe HX4 HY4 HE4 HC4 HB4 HP4 gx4 gy4
  go_upto_region 7 with fail
  generalize y5.alloc (.cells #[.int .u8 (rk : Int), .int .u16 (rt : Int), .int .u16 (rq : Int)] 61) = z5 at *
  generalize y5.heap.size = P5 at *
  have hd0 := drew_below z5
  have HB6 := Lib.hid (HB5.out.trans (hd0.mono HB5.out.size))
  have HX6 := Lib.hid (HX5.out.same (fun _ => hd0.block gx gx5))
  have HY6 := Lib.hid (HY5.out.same (fun _ => hd0.block gy gy5))
  have HE6 := Lib.hid (kept_at hd0 HE5.out)
  have HC6 := Lib.hid (kept_at hd0 HC5.out)
  have HP6 := Lib.hid (kept_at hd0 HP5.out)
  have HR6 := Lib.hid (kept_at hd0 HR5.out)
  have gx6 : gx < z5.drew.heap.size := gx5
  have gy6 : gy < z5.drew.heap.size := gy5
  clear hd0 HB5 HX5 HY5 HE5 HC5 HP5 HR5 gx5 gy5
  refine region_plan [(true, 0), (true, 1), (true, 2), (true, 3), (true, 4), (true, 5), (true, 6), (true, 7), (false, 8), (true, 9), (true, 10), (true, 11), (true, 12), (true, 13), (true, 14), (true, 15), (true, 16), (true, 17), (true, 18), (false, 19), (true, 20), (true, 21)]
    (fun z => (convert 34 9 (.slice (some ⟨gx, 0, none⟩) 5 cx)).run Try.prog z = .ok (.string ⟨(txt5 kc tc qc).toArray⟩) z ∧ (convert 34 9 (.slice (some ⟨gy, 0, none⟩) 5 cy)).run Try.prog z = .ok (.string ⟨(txt5 ke te qe).toArray⟩) z ∧ z.cell? ⟨w.heap.size, 0, none⟩ = some (.int .u8 (kc : Int)) ∧ z.cell? ⟨w.heap.size, 1, none⟩ = some (.int .u16 (tc : Int)) ∧ z.cell? ⟨w.heap.size, 2, none⟩ = some (.int .u16 (qc : Int)) ∧ z.cell? ⟨w.heap.size + 1, 0, none⟩ = some (.int .u8 (ke : Int)) ∧ z.cell? ⟨w.heap.size + 1, 1, none⟩ = some (.int .u16 (te : Int)) ∧ z.cell? ⟨w.heap.size + 1, 2, none⟩ = some (.int .u16 (qe : Int)))
    (by kernel_rfl) (by kernel_rfl) (by kernel_rfl) rfl (bytes_kept HX6.out HY6.out HC6.out HE6.out) ?_
  generalize z5.drew = y6 at *
  iterate 8 (first | (refine Plan.take (v := ?_) rfl (by rfl) ?_ ?_; rotate_left 1; (focus (intro x hx; go_simp <;> (first | with_reducible rfl | rw [if_pos (by omega)]))); simp only [Act.put, List.setIfInBounds_toArray, List.set_cons_zero, List.set_cons_succ]) | (refine Plan.skip rfl (by rfl) ?_; simp only [Act.put, List.setIfInBounds_toArray, List.set_cons_zero, List.set_cons_succ]))
  refine Plan.loud rfl (fun K hK => ?_)
  go_simp
  refine (text_on h1 h2 h3).mono ?_
  rintro e y7 ⟨rfl, hb⟩
  have HB7 := Lib.hid (HB6.out.trans (hb.mono HB6.out.size))
  have HX7 := Lib.hid (HX6.out.same (fun _ => hb.block gx gx6))
  have HY7 := Lib.hid (HY6.out.same (fun _ => hb.block gy gy6))
  have HE7 := Lib.hid (kept_at hb HE6.out)
  have HC7 := Lib.hid (kept_at hb HC6.out)
  have HP7 := Lib.hid (kept_at hb HP6.out)
  have HR7 := Lib.hid (kept_at hb HR6.out)
  have gx7 : gx < y7.heap.size := Nat.lt_of_lt_of_le gx6 hb.size
  have gy7 : gy < y7.heap.size := Nat.lt_of_lt_of_le gy6 hb.size
  refine hK.out _ _ _ (fun x hx => hx) (bytes_kept HX7.out HY7.out HC7.out HE7.out) ?_
  clear hK K hb HB6 HX6 HY6 HE6 HC6 HP6 HR6 gx6 gy6
  iterate 10 (first | (refine Plan.take (v := ?_) rfl (by rfl) ?_ ?_; rotate_left 1; (focus (intro x hx; go_simp <;> (first | with_reducible rfl | rw [if_pos (by omega)]))); simp only [Act.put, List.setIfInBounds_toArray, List.set_cons_zero, List.set_cons_succ]) | (refine Plan.skip rfl (by rfl) ?_; simp only [Act.put, List.setIfInBounds_toArray, List.set_cons_zero, List.set_cons_succ]))
  refine Plan.loud rfl (fun K hK => ?_)
  go_simp
  refine (text_on h4 h5 h6).mono ?_
  rintro e y8 ⟨rfl, hb⟩
  have HB8 := Lib.hid (HB7.out.trans (hb.mono HB7.out.size))
  have HE8 := Lib.hid (kept_at hb HE7.out)
  have HC8 := Lib.hid (kept_at hb HC7.out)
  have HP8 := Lib.hid (kept_at hb HP7.out)
  have HR8 := Lib.hid (kept_at hb HR7.out)
  refine hK.out _ _ _ (fun x hx => hx) (bytes_kept (HX7.out.same (fun _ => hb.block gx gx7)) (HY7.out.same (fun _ => hb.block gy gy7)) HC8.out HE8.out) ?_
  clear hK K hb HB7 HX7 HY7 HE7 HC7 HP7 HR7 gx7 gy7
  iterate 2 (first | (refine Plan.take (v := ?_) rfl (by rfl) ?_ ?_; rotate_left 1; (focus (intro x hx; go_simp <;> (first | with_reducible rfl | rw [if_pos (by omega)]))); simp only [Act.put, List.setIfInBounds_toArray, List.set_cons_zero, List.set_cons_succ]) | (refine Plan.skip rfl (by rfl) ?_; simp only [Act.put, List.setIfInBounds_toArray, List.set_cons_zero, List.set_cons_succ]))
  refine Plan.done ?_
  obtain ⟨c0, c1, c2⟩ := three_at HC8.out
  obtain ⟨rt, hrt⟩ : ∃ rt : Bool, rt = decide (kc = 1 ∨ kc = 2) := ⟨_, rfl⟩
  have HRT := Lib.hid hrt
  clear hrt
  go_upto_region 9 with fail
  go_cut [14] (fun v z => v = .bool rt ∧ z = y8)
  case first =>
    by_cases k1 : kc = 1
    · subst k1
      go_wp2
      go_meet
      case rel => exact ⟨congrArg Value.bool HRT.out.symm, rfl⟩
    · by_cases k2 : kc = 2
      · subst k2
        go_wp2
        go_meet
        case rel => exact ⟨congrArg Value.bool HRT.out.symm, rfl⟩
      · have k3 : ((kc : Int) == 1) = false := by simp; omega
        have k4 : ((kc : Int) == 2) = false := by simp; omega
        have k5 : decide (kc = 1 ∨ kc = 2) = false := by simp [k1, k2]
        go_wp2
        go_meet
        case rel => exact ⟨congrArg Value.bool (HRT.out.trans k5).symm, rfl⟩
  case rest =>
    obtain ⟨rfl, rfl⟩ := hcut
    have hh8 : Holds wc g A (bcs (l.take k)) := HH.out.same (fun hne => HB8.out.block g (HH.out (by rw [bcs_length]; omega)).1)
    have HH8 := Lib.hid hh8
    have hcv := convert_holds (c := c) hh8 HL.out
    clear hh8 c0 c1 c2
    go_wp2_with fail
    refine (parse_on (by have := HL.out; omega)).mono ?_
    rintro e y9 ⟨rfl, hb⟩
    obtain ⟨bk, bt, bq, be, hpb⟩ : ∃ a b c e, parse5 (l.take k) = (a, b, c, e) := ⟨_, _, _, _, rfl⟩
    have HPB := Lib.hid hpb
    rw [hpb]
    have HB9 := Lib.hid (HB8.out.trans (hb.mono HB8.out.size))
    have HH9 : Hid (Holds y9 g A (bcs (l.take k))) := Lib.hid (HH.out.same (fun hne => HB9.out.block g (HH.out (by rw [bcs_length]; omega)).1))
    have HC9 := Lib.hid (kept_at hb HC8.out)
    have HE9 := Lib.hid (kept_at hb HE8.out)
    have HP9 := Lib.hid (kept_at hb HP8.out)
    have HR9 := Lib.hid (kept_at hb HR8.out)
    clear hb hpb hcv HH8 HB8 HC8 HE8 HP8 HR8
    go_wp2_with fail
    refine (HMC.out.cparse HH9.out HL.out (by omega) hcm (by omega)).mono ?_
    rintro e y10 ⟨rfl, hb⟩
    rw [HPB.out]
    dsimp only
    have hb' := hb.trans ((new_below y10 (.cells #[.int .u8 (bk : Int), .int .u16 (bt : Int), .int .u16 (bq : Int)] 60)).mono hb.size)
    have HS10 := Lib.hid (heap_alloc_new y10 (.cells #[.int .u8 (bk : Int), .int .u16 (bt : Int), .int .u16 (bq : Int)] 60))
    have HB10 := Lib.hid (HB9.out.trans (hb'.mono HB9.out.size))
    have HH10 := Lib.hid (HH9.out.same (fun hne => hb'.block g (Nat.lt_of_lt_of_le (HH.out (by rw [bcs_length]; omega)).1 HB9.out.size)))
    have HC10 := Lib.hid (kept_at hb' HC9.out)
    have HE10 := Lib.hid (kept_at hb' HE9.out)
    have HP10 := Lib.hid (kept_at hb' HP9.out)
    have HR10 := Lib.hid (kept_at hb' HR9.out)
    clear hb hb' HB9 HH9 HC9 HE9 HP9 HR9
    go_upto_region 12 with fail
    generalize y10.alloc (.cells #[.int .u8 (bk : Int), .int .u16 (bt : Int), .int .u16 (bq : Int)] 60) = z10 at *
    generalize y10.heap.size = S10 at *
    go_wp2_with fail
    refine (HMC.out.eparse HH10.out HL.out (by omega) hcm (by omega)).mono ?_
    rintro e y11 ⟨rfl, hb⟩
    rw [HPB.out]
    dsimp only
    have hb' := hb.trans ((new_below y11 (.cells #[.int .u8 (bk : Int), .int .u16 (bt : Int), .int .u16 (bq : Int)] 61)).mono hb.size)
    have HT11 := Lib.hid (heap_alloc_new y11 (.cells #[.int .u8 (bk : Int), .int .u16 (bt : Int), .int .u16 (bq : Int)] 61))
    have HB11 := Lib.hid (HB10.out.trans (hb'.mono HB10.out.size))
    have HC11 := Lib.hid (kept_at hb' HC10.out)
    have HE11 := Lib.hid (kept_at hb' HE10.out)
    have HP11 := Lib.hid (kept_at hb' HP10.out)
    have HR11 := Lib.hid (kept_at hb' HR10.out)
    have HS11 := Lib.hid (kept_at hb' HS10.out)
    clear hb hb' HB10 HH10 HC10 HE10 HP10 HR10 HS10
    go_upto_region 13 with fail
    generalize y11.alloc (.cells #[.int .u8 (bk : Int), .int .u16 (bt : Int), .int .u16 (bq : Int)] 61) = z11 at *
    generalize y11.heap.size = S11 at *
    obtain ⟨s0, s1, s2⟩ := three_at HS11.out
    obtain ⟨t0, t1, t2⟩ := three_at HT11.out
    obtain ⟨c0, c1, c2⟩ := three_at HC11.out
    obtain ⟨e0, e1, e2⟩ := three_at HE11.out
    obtain ⟨p0, p1, p2⟩ := three_at HP11.out
    obtain ⟨r0, r1, r2⟩ := three_at HR11.out
    clear HS11 HT11 HC11 HE11 HP11 HR11
    rcases HPC.out with ⟨hk, q1, q2, q3, q4⟩ | ⟨hk, q1, q2, q3, q4⟩
    · have hd := HRT.out.trans (decide_eq_true hk)
      clear HRT
      subst hd
      rw [q1] at p0
      rw [q2] at p1
      rw [q3] at p2
      subst q4
      clear q1 q2 q3 hk HPC
      rcases HPE.out with ⟨he | he, q1, q2, q3, q4⟩ | ⟨he, q1, q2, q3, q4⟩
      · rw [q1] at r0
        rw [q2] at r1
        rw [q3] at r2
        subst q4
        clear q1 q2 q3 HPE
        subst he
        go_wp2
        go_ret
        exact ⟨by first | rfl | simp, HB11.out⟩
      · rw [q1] at r0
        rw [q2] at r1
        rw [q3] at r2
        subst q4
        clear q1 q2 q3 HPE
        subst he
        go_wp2
        go_ret
        exact ⟨by first | rfl | simp, HB11.out⟩
      · subst q4
        clear q1 q2 q3 HPE
        have k3 : ((ke : Int) == 1) = false := by simp; omega
        have k4 : ((ke : Int) == 2) = false := by simp; omega
        go_wp2
        go_ret
        exact ⟨by first | rfl | simp, HB11.out⟩
    · have hd := HRT.out.trans (decide_eq_false hk)
      clear HRT
      subst hd
      subst q4
      clear q1 q2 q3 hk HPC
      rcases HPE.out with ⟨he | he, q1, q2, q3, q4⟩ | ⟨he, q1, q2, q3, q4⟩
      · rw [q1] at r0
        rw [q2] at r1
        rw [q3] at r2
        subst q4
        clear q1 q2 q3 HPE
        subst he
        go_wp2
        go_ret
        exact ⟨by first | rfl | simp, HB11.out⟩
      · rw [q1] at r0
        rw [q2] at r1
        rw [q3] at r2
        subst q4
        clear q1 q2 q3 HPE
        subst he
        go_wp2
        go_ret
        exact ⟨by first | rfl | simp, HB11.out⟩
      · subst q4
        clear q1 q2 q3 HPE
        have k3 : ((ke : Int) == 1) = false := by simp; omega
        have k4 : ((ke : Int) == 2) = false := by simp; omega
        go_wp2
        go_ret
        exact ⟨by first | rfl | simp, HB11.out⟩
end Go.Proofs.Ytdcnmbglbopgdaa
