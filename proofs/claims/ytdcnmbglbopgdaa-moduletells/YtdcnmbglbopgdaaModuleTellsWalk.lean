/-
  lamplightlaw11.ModuleTells, walked under the conditions on module's and button's calls: true, whatever came in.
-/
import Derived.Test.YtdcnmbglbopgdaaModW
import Derived.Deep.DeepCutAuto
namespace Go.Proofs.Ytdcnmbglbopgdaa
set_option linter.unusedVariables false
set_option linter.unusedSimpArgs false
open Go.RowKit

/-- The frame of a step, as a module takes it. -/
def frD (st : St11) : Fr := if st.own then ⟨3, st.f.k, 1, st.f.q, st.f.c, st.f.b.take 40⟩ else { st.f with b := st.f.b.take 40 }
theorem frD_b (st : St11) : (frD st).b = st.f.b.take 40 := by unfold frD; split <;> rfl
theorem frD_fits {st : St11} (h : st.f.Fits) : (frD st).Fits := by
  obtain ⟨h1, h2, h3, h4, h5⟩ := h
  unfold frD
  split
  · exact ⟨by show 3 < 256; omega, h2, by show 1 < 256; omega, h4, h5⟩
  · exact ⟨h1, h2, h3, h4, h5⟩
theorem takeMo_f (m : Mo) (F : Fr) : (takeMo m F).1.f = m.f := (cmd_f _ _).1
theorem foldMo_f : ∀ (l : List Nat) (m : Mo), (l.foldl pressMo m).f = m.f
  | [], _ => rfl
  | b :: t, m => (foldMo_f t (pressMo m b)).trans (pressMo_f m b)
theorem dueL_3 {f : Bs} {now : Int} {k : Nat} (hk : k < (dueL f now 4).length) : (dueL f now 4)[k] ≤ 3 := by
  have := dueL_lt (List.getElem_mem hk)
  omega
theorem fold_take {l : List Nat} {k : Nat} (hk : k < l.length) (m : Mo) : (l.take (k + 1)).foldl pressMo m = pressMo ((l.take k).foldl pressMo m) l[k] := by
  rw [List.take_add_one, List.getElem?_eq_getElem hk, List.foldl_append]
  rfl
/-- A step in a box. -/
def Bx11 (y : World) (X : Nat) (st : St11) (A : Option Addr) (c : Nat) : Prop := y.heap[X]? = some (.cells #[.int .i64 st.k, .int .i64 st.n, .bool st.d, .int .u8 (st.f.a : Int), .int .u8 (st.f.k : Int), .int .u8 (st.f.s : Int), .int .u8 (st.f.q : Int), .int .u8 (st.f.c : Int), .slice A st.f.b.length c, .bool st.own] 38 (0, 0))
theorem Bx11.cells {y : World} {X c : Nat} {st : St11} {A : Option Addr} (h : Bx11 y X st A c) : y.cell? ⟨X, 0, none⟩ = some (.int .i64 st.k) ∧ y.cell? ⟨X, 1, none⟩ = some (.int .i64 st.n) ∧ y.cell? ⟨X, 2, none⟩ = some (.bool st.d) ∧ y.cell? ⟨X, 9, none⟩ = some (.bool st.own) := by
  unfold Bx11 at h
  refine ⟨?_, ?_, ?_, ?_⟩ <;> simp [World.cell?, h]
theorem Bx11.lt {y : World} {X c : Nat} {st : St11} {A : Option Addr} (h : Bx11 y X st A c) : X < y.heap.size := (Array.getElem?_eq_some_iff.1 h).1
theorem Bx11.step {x y : World} {X c : Nat} {st : St11} {A : Option Addr} (h : Bx11 x X st A c) (hb : Below x.heap.size x y) : Bx11 y X st A c := (hb.block X h.lt).trans h
theorem hold_lt {w : World} {g : Nat} {A : Option Addr} {l : List UInt8} (h : Holds w g A (bcs l)) : l.length = 0 ∨ g < w.heap.size := by
  by_cases hl : l.length = 0
  · exact .inl hl
  · exact .inr (h (by rw [bcs_length]; omega)).1

variable {Mp : World → List Nat → Nat → Mo → Prop} {Bl : World → Nat → Bs → Prop}
set_option maxRecDepth 100000 in
set_option maxHeartbeats 25600000 in
theorem moduletells_walk (MC : ModCond Mp) (MT : ModTy Mp) (BC : ButCond Bl) (BT : ButTy Bl) (P : Option Addr) (n0 c0 : Nat) (ss : List St11) (w : World) (hp : Steps11 w P ss) (hn : ss.length = n0) (hc : n0 ≤ c0) (hm : c0 ≤ 9223372036854775807) :
    Calls Try.prog 3 #[.slice P n0 c0] w fun e w' => e = .returned (.bool true) ∧ Below w.heap.size w w' := by
  obtain ⟨n, hn0, hn300, hlast⟩ : ∃ n, n ≤ n0 ∧ n ≤ 300 ∧ (n = n0 ∨ n = 300) := ⟨min n0 300, by omega, by omega, by omega⟩
  have HL := Lib.hid hn
  have HP := Lib.hid hp
  have HLS := Lib.hid hlast
  clear hp hn hlast
  go_enter Try.func3, Try.ntmps3
  go_wp2_with fail
  refine (shown_on MC w).mono ?_
  rintro e x0 ⟨rfl, hb0⟩
  have HB0 := Lib.hid hb0
  clear hb0
  go_wp2_with fail
  refine (MC.newL (a := 3) HB0.out (by omega)).mono ?_
  rintro e x1 ⟨D, rfl, h1, _⟩
  have H1 := Lib.hid h1
  clear h1 HB0
  go_wp2_with fail
  refine (rmnew_on (a := 3)).mono ?_
  rintro e x2 ⟨R, RS, rfl, h2, hb2⟩
  have H2 := Lib.hid (H1.out.step MC hb2)
  have HR2 : Hid (Rm x2 w.heap.size R RS (newMo 3)) := Lib.hid (h2.low H1.out.below.size)
  clear h2 hb2 H1
  have hb3 := new_below x2 (.cells bz 33)
  have H3 : Hid (Mt Mp Bl w D x2.heap.size R [] (newMo 3) (newMo 3) zeroB (x2.alloc (.cells bz 33))) :=
    Lib.hid ⟨H2.out.more MC hb3 (by simp), ⟨RS, HR2.out.step hb3⟩, Lb.zero BC H2.out.below⟩
  clear hb3 H2 HR2
  go_upto_region 7 with fail
  generalize x2.alloc (.cells bz 33) = x3 at *
  generalize x2.heap.size = OB at *
  have H0 : Hid (∃ m : Mo, Mt Mp Bl w D OB R [] m m m.f x3) := Lib.hid ⟨_, H3.out⟩
  clear H3
  go_wp2
  go_loopw [8, 7] (fun j nv wr => ∃ (i now : Nat), i ≤ n ∧ now ≤ i ∧ j = .int .i64 i ∧ nv = .int .i64 now ∧ Hid (∃ m : Mo, Mt Mp Bl w D OB R [] m m m.f wr)) (fun j _ _ => n - (intOf j).toNat)
  case atStart => exact ⟨0, 0, Nat.zero_le _, Nat.le_refl _, rfl, rfl, H0⟩
  case round =>
    clear H0
    obtain ⟨i, now, hi, hnow, rfl, rfl, H⟩ := hrel
    rename World => y0
    obtain ⟨m, H⟩ := H.out
    replace H := Lib.hid H
    by_cases hlt : i < n
    · have hlt1 : (i : Int) < (n0 : Int) := by omega
      have hlt2 : (i : Int) < 300 := by omega
      have hil : i < ss.length := by rw [HL.out]; omega
      have HY0 : Hid (w.heap.size ≤ y0.heap.size) := H.out.lm.below.size
      obtain ⟨b, o, g, A, c, rfl, hsc, hsn, hfits, hhold, hbc, hcm⟩ := HP.out.at i hil
      generalize (ss[i]'hil) = st at *
      have hsc' := hsc.step H.out.lm.below
      have HFI := Lib.hid (frD_fits hfits)
      have HSN : Hid (BI st.n) := hsn
      have HHO : Hid (Holds w g A (bcs (st.f.b.take 40))) := by show Holds _ _ _ _; rw [bcs_take]; exact hhold.take 40
      obtain ⟨n1, hn1⟩ : ∃ n1, st.f.b.length = n1 := ⟨_, rfl⟩
      obtain ⟨p, hp40, hpn, hmin⟩ := min_of n1 40 40 rfl
      have HPL : Hid ((st.f.b.take 40).length = p) := by
        show _ = _
        rw [List.length_take, hn1]
        split at hmin <;> omega
      have hpc : p ≤ c := by rw [hn1] at hbc; omega
      have hcm' : c ≤ 9223372036854775807 := by unfold maxLen at hcm; omega
      have HPC := Lib.hid hpc
      have HCM := Lib.hid hcm'
      have e0 := hsc'.c0
      have e1 := hsc'.c1
      have e2 := hsc'.c2
      have e3 := hsc'.c3
      have e4 := hsc'.c4
      have e5 := hsc'.c5
      have e6 := hsc'.c6
      have e7 := hsc'.c7
      have e8 := hsc'.c8
      have e9 := hsc'.c9
      have HN1 := Lib.hid hn1
      clear hsc hsc' hsn hfits hhold hbc hcm
      go_upto_region 12 with fail
      have hb1 := new_below y0 (.cells #[.int .i64 st.k, .int .i64 st.n, .bool st.d, .int .u8 (st.f.a : Int), .int .u8 (st.f.k : Int), .int .u8 (st.f.s : Int), .int .u8 (st.f.q : Int), .int .u8 (st.f.c : Int), .slice A n1 c, .bool st.own] 38)
      have HBX : Hid (Bx11 (y0.alloc (.cells #[.int .i64 st.k, .int .i64 st.n, .bool st.d, .int .u8 (st.f.a : Int), .int .u8 (st.f.k : Int), .int .u8 (st.f.s : Int), .int .u8 (st.f.q : Int), .int .u8 (st.f.c : Int), .slice A n1 c, .bool st.own] 38)) y0.heap.size st A c) := by show Bx11 _ _ _ _ _; unfold Bx11; rw [hn1]; exact heap_alloc_new y0 _
      have HM1 := Lib.hid (H.out.more MC BC hb1 (by simp))
      have HO1 : Hid (y0.heap.size ≠ OB) := Lib.hid (by have := H.out.lb.lt BC; omega)
      clear e0 e1 e2 e3 e4 e5 e6 e7 e8 e9 hb1 H
      generalize y0.alloc (.cells #[.int .i64 st.k, .int .i64 st.n, .bool st.d, .int .u8 (st.f.a : Int), .int .u8 (st.f.k : Int), .int .u8 (st.f.s : Int), .int .u8 (st.f.q : Int), .int .u8 (st.f.c : Int), .slice A n1 c, .bool st.own] 38) = ya at *
      generalize y0.heap.size = X1 at *
      have hbx := HBX.out
      unfold Bx11 at hbx
      have e3 : ya.cell? ⟨X1, 3, none⟩ = some (.int .u8 (st.f.a : Int)) := by simp [World.cell?, hbx]
      have e4 : ya.cell? ⟨X1, 4, none⟩ = some (.int .u8 (st.f.k : Int)) := by simp [World.cell?, hbx]
      have e5 : ya.cell? ⟨X1, 5, none⟩ = some (.int .u8 (st.f.s : Int)) := by simp [World.cell?, hbx]
      have e6 : ya.cell? ⟨X1, 6, none⟩ = some (.int .u8 (st.f.q : Int)) := by simp [World.cell?, hbx]
      have e7 : ya.cell? ⟨X1, 7, none⟩ = some (.int .u8 (st.f.c : Int)) := by simp [World.cell?, hbx]
      have e8 : ya.cell? ⟨X1, 8, none⟩ = some (.slice A n1 c) := by rw [← hn1]; simp [World.cell?, hbx]
      clear hbx hn1
      go_upto_region 14 with fail
      have hb2 := new_below ya (.cells #[.int .u8 (st.f.a : Int), .int .u8 (st.f.k : Int), .int .u8 (st.f.s : Int), .int .u8 (st.f.q : Int), .int .u8 (st.f.c : Int), .slice A p c] 36)
      have HFX : Hid (Fx (ya.alloc (.cells #[.int .u8 (st.f.a : Int), .int .u8 (st.f.k : Int), .int .u8 (st.f.s : Int), .int .u8 (st.f.q : Int), .int .u8 (st.f.c : Int), .slice A p c] 36)) ya.heap.size { st.f with b := st.f.b.take 40 } (.slice A p c)) := heap_alloc_new ya _
      have H := Lib.hid (HM1.out.more MC BC hb2 (by simp))
      have HO2 : Hid (ya.heap.size ≠ OB) := Lib.hid (by have := HM1.out.lb.lt BC; omega)
      have HXW : Hid (w.heap.size ≤ ya.heap.size) := HM1.out.lm.below.size
      have HXX : Hid (X1 ≠ ya.heap.size) := Lib.hid (by have := HBX.out.lt; omega)
      replace HBX := Lib.hid (HBX.out.step hb2)
      clear e3 e4 e5 e6 e7 e8 hb2 HM1
      generalize ya.alloc (.cells #[.int .u8 (st.f.a : Int), .int .u8 (st.f.k : Int), .int .u8 (st.f.s : Int), .int .u8 (st.f.q : Int), .int .u8 (st.f.c : Int), .slice A p c] 36) = yb at *
      generalize ya.heap.size = X at *
      have e9 := HBX.out.cells.2.2.2
      go_upto_if 51 with fail
      clear e9
      go_cut [] (fun y => Hid (Fx y X (frD st) (.slice A p c)) ∧ Hid (Mt Mp Bl w D OB R [X, X1] m m m.f y) ∧ Hid (Bx11 y X1 st A c))
      case first =>
        as_aux_lemma =>
          have hf := HFX.out.fc
          have p0 := hf.c0
          have p2 := hf.c2
          have q0 := hf.fz 0
          have q2 := hf.fz 2
          clear hf
          obtain ⟨ow, how⟩ : ∃ ow, st.own = ow := ⟨_, rfl⟩
          rw [how]
          cases ow with
          | true =>
            have hnt : ¬ BlockIn yb X Tm11 := by
              rintro ⟨cs, e, fz, k1, k2⟩
              have k3 : yb.heap[X]? = _ := HFX.out
              rw [k3] at k1
              injection k1 with k1
              injection k1 with _ k1
              subst k1
              exact absurd k2 (by decide)
            obtain ⟨h1, h2⟩ := sets_row [(0, .int .u8 3), (2, .int .u8 1)] HFX.out
            have hM := H.out.off MC BC h2 (by simp) HXW.out HO2.out hnt
            have hB : Bx11 (sets X [(0, .int .u8 3), (2, .int .u8 1)] yb) X1 st A c := (h2.block X1 HBX.out.lt (by have := HXX.out; simp; omega)).trans HBX.out
            have hF : Fx (sets X [(0, .int .u8 3), (2, .int .u8 1)] yb) X (frD st) (.slice A p c) := by
              have e : frD st = ⟨3, st.f.k, 1, st.f.q, st.f.c, st.f.b.take 40⟩ := by unfold frD; rw [how]; rfl
              rw [e]
              exact h1
            simp only [sets, List.foldl] at hM hB hF
            have HM2 := Lib.hid hM
            have HB2 := Lib.hid hB
            have HF2 := Lib.hid hF
            clear h1 h2 hM hB hF hnt how
            go_wp2
            go_meet
            case rel => exact ⟨HF2, HM2, HB2⟩
          | false =>
            have HF2 : Hid (Fx yb X (frD st) (.slice A p c)) := by
              have e : frD st = { st.f with b := st.f.b.take 40 } := by unfold frD; rw [how]; rfl
              rw [e]
              exact HFX.out
            clear how
            go_wp2
            go_meet
            case rel => exact ⟨HF2, H, HBX⟩
      case rest =>
        clear H HFX HBX
        obtain ⟨HFX, H, HBX⟩ := hcut
        rename World => yb
        obtain ⟨sk, hsk⟩ : ∃ sk, st.k = sk := ⟨_, rfl⟩
        have e0 := HBX.out.cells.1
        rw [hsk] at e0
        clear hsk
        go_upto_block 2 with fail
        clear e0
        go_cut [11, 7] (fun v nv y => v = .bool true ∧ ∃ now' : Nat, now' ≤ i + 1 ∧ nv = .int .i64 now' ∧ Hid (∃ m' : Mo, Mt Mp Bl w D OB R [] m' m' m'.f y))
        case first =>
          as_aux_lemma =>
            have HFB : Hid ((frD st).b.length = p) := by show _ = _; rw [frD_b]; exact HPL.out
            have HHF : Hid (Holds w g A (bcs (frD st).b)) := by
              show Holds _ _ _ _
              rw [frD_b]
              exact HHO.out
            have HNB : Hid (BI (now : Int)) := Lib.hid (by unfold BI; omega)
            have HP40 := Lib.hid hp40
            have HKF : Hid (∀ (x : Mo) (y : World) (V : List Nat), x.f = m.f → Mt Mp Bl w D OB R V x x m.f y → ∃ m' : Mo, Mt Mp Bl w D OB R [] m' m' m'.f y) := by
              intro x y V h1 h2
              exact ⟨x, by rw [h1]; exact h2.less (by simp)⟩
            clear HPL HHO HY0
            generalize hfr : frD st = fr at *
            clear hfr
            by_cases k0 : sk = 0 ∨ sk = 1 ∨ sk = 2 ∨ sk = 3
            · rcases k0 with rfl | rfl | rfl | rfl
              all_goals
                as_aux_lemma =>
                  have hf := HFX.out.fc
                  have p0 := hf.c0
                  have p1 := hf.c1
                  have p2 := hf.c2
                  have p3 := hf.c3
                  have p4 := hf.c4
                  have p5 := hf.c5
                  clear hf
                  rw [← HFB.out] at p5
                  go_wp2_with fail
                  refine (mt_take MC MT BC H.out (F := fr) (HHF.out.keep (F := []) (Ch.of_below H.out.lm.below) (by simp)) (by rcases hold_lt HHF.out with h | h; exact .inl h; exact .inr (.inl h)) HFI.out (by rw [HFB.out]; exact HPC.out) HCM.out (by rw [HFB.out]; have := HP40.out; omega)).mono ?_
                  rintro e z ⟨A5, c5, rfl, o5, h5, hv5⟩
                  have HMF : Hid ((takeMo m fr).1.f = m.f) := Lib.hid (takeMo_f m fr)
                  have HFX5 : Hid (Fx z X fr (.slice A p c)) := Lib.hid ((hv5.block X (by simp)).trans HFX.out)
                  have HOK := Lib.hid H.out.lm.ok
                  obtain ⟨tm, htm⟩ : ∃ tm, takeMo m fr = tm := ⟨_, rfl⟩
                  rw [htm] at h5 o5 HMF ⊢
                  have HTM := Lib.hid htm
                  obtain ⟨m', an, ok⟩ := tm
                  simp only at h5 o5 HMF ⊢
                  have H5 := Lib.hid (h5.less (V' := []) (by simp))
                  have HO5 := Lib.hid (own_zero o5)
                  clear h5 hv5 o5 htm H HFX HBX p0 p1 p2 p3 p4 p5
                  have hb6 := new_below z (.cells (fcs an (.slice A5 an.b.length c5)) 36)
                  have HG6 : Hid (Fx (z.alloc (.cells (fcs an (.slice A5 an.b.length c5)) 36)) z.heap.size an (.slice A5 an.b.length c5)) := heap_alloc_new z _
                  have H6 := Lib.hid (H5.out.step MC BC hb6)
                  have HFX6 := Lib.hid (HFX5.out.step hb6)
                  have HO6 := Lib.hid (own_ft (B := 0) (T := []) HO5.out (Ft.of_below hb6) (by simp))
                  clear hb6 H5 HFX5 HO5
                  go_upto_region 24 with fail
                  generalize z.alloc (.cells (fcs an (.slice A5 an.b.length c5)) 36) = z1 at *
                  generalize z.heap.size = G1 at *
                  have hf := HFX6.out.fc
                  have p0 := hf.c0
                  have p1 := hf.c1
                  have p2 := hf.c2
                  have p3 := hf.c3
                  have p4 := hf.c4
                  have p5 := hf.c5
                  clear hf
                  go_wp2_with fail
                  refine (of_on (f := fr) (HHF.out.keep (F := []) (Ch.of_below H6.out.lm.below) (by simp)) HFB.out).mono ?_
                  rintro e z2 ⟨rfl, hb7⟩
                  have H7 := Lib.hid (H6.out.step MC BC hb7)
                  have HG7 := Lib.hid (HG6.out.step hb7)
                  have HO7 := Lib.hid (own_ft (B := 0) (T := []) HO6.out (Ft.of_below hb7) (by simp))
                  clear hb7 H6 HG6 HO6 p0 p1 p2 p3 p4 p5 HFX6
                  go_wp2_with fail
                  refine (mt_rtake (F := fr) MC MT BC BT H7.out HOK.out (by rw [HFB.out]; have := HP40.out; omega)).mono ?_
                  rintro e z3 ⟨rfl, h8, hf8⟩
                  rw [HTM.out] at h8 ⊢
                  simp only at h8 ⊢
                  have H8 := Lib.hid h8
                  have HG8 := Lib.hid (HG7.out.ft hf8 (by decide))
                  have HO8 := Lib.hid (own_ft HO7.out hf8 (by decide))
                  clear h8 hf8 H7 HG7 HO7 HTM
                  have hb9 := new_below z3 (.cells (rcs an) 42)
                  have HE9 : Hid (Rx8 (z3.alloc (.cells (rcs an) 42)) z3.heap.size an) := heap_alloc_new z3 _
                  have H9 := Lib.hid (H8.out.step MC BC hb9)
                  have HG9 := Lib.hid (HG8.out.step hb9)
                  have HO9 := Lib.hid (own_ft (B := 0) (T := []) HO8.out (Ft.of_below hb9) (by simp))
                  clear hb9 H8 HG8 HO8
                  go_upto_region 25 with fail
                  generalize z3.alloc (.cells (rcs an) 42) = z4 at *
                  generalize z3.heap.size = G2 at *
                  have hd := drew_below z4
                  have HSS : Hid (∀ y, Below z4.heap.size z4 y → y.cell? ⟨G1, 0, none⟩ = some (.int .u8 (an.a : Int)) ∧ y.cell? ⟨G1, 1, none⟩ = some (.int .u8 (an.k : Int)) ∧ y.cell? ⟨G1, 2, none⟩ = some (.int .u8 (an.s : Int)) ∧ y.cell? ⟨G1, 3, none⟩ = some (.int .u8 (an.q : Int)) ∧ y.cell? ⟨G1, 4, none⟩ = some (.int .u8 (an.c : Int)) ∧ y.cell? ⟨G1, 5, none⟩ = some (.slice A5 an.b.length c5) ∧
                      y.cell? ⟨G2, 0, none⟩ = some (.int .u8 (an.a : Int)) ∧ y.cell? ⟨G2, 1, none⟩ = some (.int .u8 (an.k : Int)) ∧ y.cell? ⟨G2, 2, none⟩ = some (.int .u8 (an.s : Int)) ∧ y.cell? ⟨G2, 3, none⟩ = some (.int .u8 (an.q : Int)) ∧ y.cell? ⟨G2, 4, none⟩ = some (.int .u8 (an.c : Int)) ∧ y.cell? ⟨G2, 5, none⟩ = some (.string ⟨an.b.toArray⟩)) := by
                    intro y hy
                    have h1 := (HG9.out.step hy).fc
                    have h2 := rc8_of ((hy.block G2 (Array.getElem?_eq_some_iff.1 HE9.out).1).trans HE9.out)
                    exact ⟨h1.c0, h1.c1, h1.c2, h1.c3, h1.c4, h1.c5, h2.c0, h2.c1, h2.c2, h2.c3, h2.c4, h2.c5⟩
                  have HB10 := Lib.hid hd
                  refine region_plan [(true, 0), (true, 2), (false, 1), (true, 3), (true, 4), (true, 5), (true, 6), (true, 7), (true, 8), (true, 9)]
                    (fun y => y.cell? ⟨G1, 0, none⟩ = some (.int .u8 (an.a : Int)) ∧ y.cell? ⟨G1, 1, none⟩ = some (.int .u8 (an.k : Int)) ∧ y.cell? ⟨G1, 2, none⟩ = some (.int .u8 (an.s : Int)) ∧ y.cell? ⟨G1, 3, none⟩ = some (.int .u8 (an.q : Int)) ∧ y.cell? ⟨G1, 4, none⟩ = some (.int .u8 (an.c : Int)) ∧ y.cell? ⟨G1, 5, none⟩ = some (.slice A5 an.b.length c5) ∧
                      y.cell? ⟨G2, 0, none⟩ = some (.int .u8 (an.a : Int)) ∧ y.cell? ⟨G2, 1, none⟩ = some (.int .u8 (an.k : Int)) ∧ y.cell? ⟨G2, 2, none⟩ = some (.int .u8 (an.s : Int)) ∧ y.cell? ⟨G2, 3, none⟩ = some (.int .u8 (an.q : Int)) ∧ y.cell? ⟨G2, 4, none⟩ = some (.int .u8 (an.c : Int)) ∧ y.cell? ⟨G2, 5, none⟩ = some (.string ⟨an.b.toArray⟩)) (by kernel_rfl) (by kernel_rfl) (by kernel_rfl) rfl (HSS.out _ HB10.out) ?_
                  have H10 := Lib.hid (H9.out.step MC BC hd)
                  have HO10 := Lib.hid (own_ft (B := 0) (T := []) HO9.out (Ft.of_below hd) (by simp))
                  clear hd H9 HO9
                  generalize z4.drew = z5 at *
                  iterate 2 (refine Plan.take (v := ?_) rfl (by rfl) ?_ ?_; rotate_left 1; (focus (intro x hx; go_simp <;> (first | with_reducible rfl | rw [if_pos (by omega)]))); simp only [Act.put, List.setIfInBounds_toArray, List.set_cons_zero, List.set_cons_succ])
                  refine Plan.loud rfl (fun K hK => ?_)
                  go_simp
                  refine (of_own HO10.out).mono ?_
                  rintro e z6 ⟨rfl, hb11⟩
                  have H11 := Lib.hid (H10.out.step MC BC hb11)
                  refine hK.out _ _ _ (fun x hx => hx) (HSS.out _ (HB10.out.trans (hb11.mono HB10.out.size))) ?_
                  clear hK K hb11 H10 HO10 HSS HB10 HE9 HG9
                  iterate 7 (first | (refine Plan.take (v := ?_) rfl (by rfl) ?_ ?_; rotate_left 1; (focus (intro x hx; go_simp <;> (first | with_reducible rfl | rw [if_pos (by omega)]))); simp only [Act.put, List.setIfInBounds_toArray, List.set_cons_zero, List.set_cons_succ]) | (refine Plan.skip rfl (by rfl) ?_; simp only [Act.put, List.setIfInBounds_toArray, List.set_cons_zero, List.set_cons_succ]))
                  refine Plan.done ?_
                  go_wp2
                  go_meet
                  case rel => exact ⟨rfl, now, by omega, rfl, Lib.hid (HKF.out _ _ _ HMF.out H11.out)⟩
            · by_cases k4 : sk = 4
              · as_aux_lemma =>
                  subst k4
                  have HSS : Hid (∀ y, Bx11 y X1 st A c → y.cell? ⟨X1, 1, none⟩ = some (.int .i64 st.n) ∧ y.cell? ⟨X1, 2, none⟩ = some (.bool st.d)) := Lib.hid fun y hy => ⟨hy.cells.2.1, hy.cells.2.2.1⟩
                  go_upto_region 27 with fail
                  have H5 := Lib.hid (H.out.step MC BC (drew_below yb))
                  have HB5 := Lib.hid (HBX.out.step (drew_below yb))
                  refine region_plan [(true, 0), (true, 1), (true, 2), (true, 3), (true, 4), (true, 5), (true, 7), (true, 8), (true, 9), (true, 10), (true, 11), (true, 12), (false, 6), (false, 13), (true, 14), (true, 15)]
                    (fun y => y.cell? ⟨X1, 1, none⟩ = some (.int .i64 st.n) ∧ y.cell? ⟨X1, 2, none⟩ = some (.bool st.d)) (by kernel_rfl) (by kernel_rfl) (by kernel_rfl) rfl (HSS.out _ HB5.out) ?_
                  clear H HBX HFX
                  generalize yb.drew = z at *
                  iterate 12 (refine Plan.take (v := ?_) rfl (by rfl) ?_ ?_; rotate_left 1; (focus (intro x hx; go_simp <;> (first | with_reducible rfl | rw [if_pos (by omega)]))); simp only [Act.put, List.setIfInBounds_toArray, List.set_cons_zero, List.set_cons_succ])
                  refine Plan.loud rfl (fun K hK => ?_)
                  go_simp
                  refine (mt_set MC MT BC H5.out HSN.out HNB.out).mono ?_
                  rintro e z2 ⟨rfl, h6, hv6⟩
                  have H6 := Lib.hid h6
                  have HB6 : Hid (Bx11 z2 X1 st A c) := Lib.hid ((hv6.block X1 (by simp)).trans HB5.out)
                  refine hK.out _ _ _ (fun x hx => hx) (HSS.out _ HB6.out) ?_
                  clear hK K h6 hv6 H5 HB5
                  refine Plan.loud rfl (fun K hK => ?_)
                  go_simp
                  refine (mt_bset MC BC BT H6.out HSN.out HNB.out).mono ?_
                  rintro e z3 ⟨rfl, h7, hc7⟩
                  have HB7 : Hid (Bx11 z3 X1 st A c) := Lib.hid ((hc7.block X1 HB6.out.lt (by have := HO1.out; simp; omega)).trans HB6.out)
                  have H7 : Hid (∃ m' : Mo, Mt Mp Bl w D OB R [] m' m' m'.f z3) := Lib.hid ⟨setMo m st.n st.d now, by
                    have h8 := h7.less (V' := []) (by simp)
                    obtain ⟨RS, hr⟩ := h8.ref
                    exact ⟨h8.lm, ⟨RS, hr.with_f _⟩, h8.lb⟩⟩
                  refine hK.out _ _ _ (fun x hx => hx) (HSS.out _ HB7.out) ?_
                  clear hK K h7 hc7 H6 HB6 HB7
                  generalize (setB m.f st.n st.d now).2 = er at *
                  iterate 2 (refine Plan.take (v := ?_) rfl (by rfl) ?_ ?_; rotate_left 1; (focus (intro x hx; go_simp <;> (first | with_reducible rfl | rw [if_pos (by omega)]))); simp only [Act.put, List.setIfInBounds_toArray, List.set_cons_zero, List.set_cons_succ])
                  refine Plan.done ?_
                  go_wp2
                  go_meet
                  case rel => exact ⟨rfl, now, by omega, rfl, H7⟩
              · by_cases k5 : sk = 5 ∨ sk = 6 ∨ sk = 7 ∨ sk = 8
                · rcases k5 with rfl | rfl | rfl | rfl
                  all_goals
                    as_aux_lemma =>
                      have HN2 : Hid (BI ((now : Int) + 1)) := Lib.hid (by unfold BI; omega)
                      have hw : IntKind.i64.wrap ((now : Int) + 1) = (now : Int) + 1 := by rw [IntKind.wrap_i64]; omega
                      have H5 := Lib.hid (H.out.less (V' := []) (by simp))
                      have HMK := Lib.hid H.out.lm.ok
                      clear H HBX HFX
                      go_wp2_with fail
                      refine (mt_tick MC MT BC H5.out HN2.out).mono ?_
                      rintro e z ⟨rfl, h6, _⟩
                      have H6 := Lib.hid h6
                      clear h6 H5
                      go_wp2_with fail
                      refine (mt_bpressed MC BC BT H6.out HN2.out).mono ?_
                      rintro e z2 ⟨Ap, cp, rfl, hi7, h7, _⟩
                      have HI7 := Lib.hid hi7
                      have H7 : Hid (Mt Mp Bl w D OB R [] (tickMo m ((now : Int) + 1)) { m with f := (pressB m.f ((now : Int) + 1)).1 } (pressB m.f ((now : Int) + 1)).1 z2) := by
                        obtain ⟨RS, hr⟩ := h7.ref
                        exact ⟨h7.lm, ⟨RS, hr.with_f _⟩, h7.lb⟩
                      have HTK : Hid (tickMo m ((now : Int) + 1) = (pressB m.f ((now : Int) + 1)).2.foldl pressMo { m with f := (pressB m.f ((now : Int) + 1)).1 }) := rfl
                      have HP3 : Hid (∀ k (hk : k < (pressB m.f ((now : Int) + 1)).2.length), (pressB m.f ((now : Int) + 1)).2[k] ≤ 3) := Lib.hid fun k hk => dueL_3 hk
                      have HL4 : Hid ((pressB m.f ((now : Int) + 1)).2.length ≤ 4) := Lib.hid (dueL_len _ _ 4)
                      have HOK : Hid (Mo.Ok { m with f := (pressB m.f ((now : Int) + 1)).1 }) := Lib.hid ⟨HMK.out.s, pressB_ok HMK.out.f _, HMK.out.tok, HMK.out.qty, HMK.out.most⟩
                      have HFF : Hid (({ m with f := (pressB m.f ((now : Int) + 1)).1 } : Mo).f = (pressB m.f ((now : Int) + 1)).1) := rfl
                      clear hi7 h7 H6
                      generalize tickMo m ((now : Int) + 1) = mt at *
                      generalize ({ m with f := (pressB m.f ((now : Int) + 1)).1 } : Mo) = mr at *
                      generalize (pressB m.f ((now : Int) + 1)).1 = f' at *
                      generalize (pressB m.f ((now : Int) + 1)).2 = L at *
                      generalize z.heap.size = B7 at *
                      obtain ⟨ln, hln⟩ : ∃ ln, L.length = ln := ⟨_, rfl⟩
                      rw [hln] at HI7 HL4 ⊢
                      have HLN := Lib.hid hln
                      clear hln
                      go_wp2
                      go_loopw [17] (fun kv wr => ∃ (k : Nat), k ≤ ln ∧ kv = .int .i64 (k : Int) ∧ Hid (Mt Mp Bl w D OB R [] mt ((L.take k).foldl pressMo mr) f' wr) ∧ Hid (Ir wr B7 ln Ap cp L)) (fun kv _ => ln - (intOf kv).toNat)
                      case atStart => exact ⟨0, Nat.zero_le _, rfl, by simpa using H7, HI7⟩
                      case round =>
                        clear H7 HI7
                        obtain ⟨k, hk, rfl, H7, HI7⟩ := hrel
                        rename World => yk
                        have hl4 : ln ≤ 4 := HL4.out
                        by_cases hkl : k < ln
                        · have hkl1 : (k : Int) < (ln : Int) := by omega
                          have hkL : k < L.length := by rw [HLN.out]; exact hkl
                          obtain ⟨gp, rfl, _, hcell, _⟩ := HI7.out.at k hkl
                          have hcap := HI7.out.cap
                          have HB3 := Lib.hid (HP3.out k hkL)
                          have HFT := Lib.hid (fold_take hkL mr)
                          generalize (L[k]'hkL) = bq at *
                          go_wp2_with fail
                          refine (mt_rpress MC MT BC BT H7.out (foldMo_ok _ HOK.out) HB3.out).mono ?_
                          rintro e yl ⟨rfl, h8, hf8⟩
                          have H8 : Hid (Mt Mp Bl w D OB R [] mt ((L.take (k + 1)).foldl pressMo mr) f' yl) := by
                            show Mt _ _ _ _ _ _ _ _ _ _ _
                            rw [HFT.out]
                            exact h8
                          have HI8 := Lib.hid (HI7.out.ft hf8 (by decide))
                          clear h8 hf8 H7 HI7 HFT HB3 hcell hcap
                          go_wp2
                          go_roundw
                          case rel => exact ⟨k + 1, by omega, by go_num, H8, HI8⟩
                          case measure => simp [intOf]; omega
                        · have hkn : ln = k := by omega
                          have H9 : Hid (∃ m' : Mo, Mt Mp Bl w D OB R [] m' m' m'.f yk) := Lib.hid ⟨mt, by
                            have h9 := H7.out
                            rw [List.take_of_length_le (by rw [HLN.out]; omega), ← HTK.out] at h9
                            have hmf : mt.f = f' := by rw [HTK.out, foldMo_f, HFF.out]
                            rw [hmf]
                            exact h9⟩
                          subst hkn
                          clear H7 HI7
                          go_wp2
                          go_meet
                          case rel => exact ⟨rfl, now + 1, by omega, by simp, H9⟩
                · by_cases k9 : sk = 9
                  · as_aux_lemma =>
                      subst k9
                      have H5 := Lib.hid (H.out.less (V' := []) (by simp))
                      clear H HBX HFX
                      go_wp2_with fail
                      refine (mt_reset MC MT BC H5.out).mono ?_
                      rintro e z ⟨rfl, h6, _⟩
                      have H6 := Lib.hid h6
                      clear h6 H5
                      go_wp2_with fail
                      refine (mt_rreset MC MT BC BT H6.out).mono ?_
                      rintro e z2 ⟨rfl, h7, _⟩
                      have H7 := Lib.hid h7
                      clear h7 H6
                      go_wp2_with fail
                      refine (mt_breset MC BC BT H7.out).mono ?_
                      rintro e z3 ⟨rfl, h8, _⟩
                      have H8 : Hid (∃ m' : Mo, Mt Mp Bl w D OB R [] m' m' m'.f z3) := Lib.hid ⟨resetMo m, h8⟩
                      clear h8 H7
                      go_wp2
                      go_meet
                      case rel => exact ⟨rfl, now, by omega, rfl, H8⟩
                  · as_aux_lemma =>
                      have j0 : (sk == 0) = false := by simp; omega
                      have j1 : (sk == 1) = false := by simp; omega
                      have j2 : (sk == 2) = false := by simp; omega
                      have j3 : (sk == 3) = false := by simp; omega
                      have j4 : (sk == 4) = false := by simp; omega
                      have j5 : (sk == 5) = false := by simp; omega
                      have j6 : (sk == 6) = false := by simp; omega
                      have j7 : (sk == 7) = false := by simp; omega
                      have j8 : (sk == 8) = false := by simp; omega
                      have j9 : (sk == 9) = false := by simp; omega
                      clear k0 k4 k5 k9
                      have H8 : Hid (∃ m' : Mo, Mt Mp Bl w D OB R [] m' m' m'.f yb) := Lib.hid (HKF.out _ _ _ rfl H.out)
                      go_wp2
                      go_meet
                      case rel => exact ⟨rfl, now, by omega, rfl, H8⟩
        case rest =>
          clear H HFX HBX HPL HFI HHO HXW HY0 HSN HPC HCM HXX HO1 HO2
          obtain ⟨rfl, now', hnow', rfl, H⟩ := hcut
          obtain ⟨m', H⟩ := H.out
          replace H := Lib.hid H
          rename World => yc
          go_wp2_with fail
          refine (mt_show MC BC H.out).mono ?_
          rintro e yd ⟨rfl, h5, _⟩
          have hb6 := new_below yd (.cells (mdc m') 53)
          have H6 := Lib.hid (h5.step MC BC hb6)
          have HD6 : Hid (Dp (yd.alloc (.cells (mdc m') 53)) yd.heap.size m') := heap_alloc_new yd _
          clear hb6 h5 H
          go_upto_region 44 with fail
          generalize yd.alloc (.cells (mdc m') 53) = ye at *
          generalize yd.heap.size = Y at *
          replace H6 := Lib.hid (H6.out.step MC BC (drew_below ye))
          replace HD6 := Lib.hid (HD6.out.step (drew_below ye))
          obtain ⟨RS, hR⟩ := H6.out.ref
          obtain ⟨d0, d1, d2, d3, d4⟩ := HD6.out.cells
          have hc := hR.mc
          have r1 := hc.c1
          have r2 := hc.c2
          have r3 := hc.c3
          have r4 := hc.c4
          have r5 := hc.c5
          clear hc hR
          generalize m'.lit = q1 at *
          generalize m'.lat = q2 at *
          generalize m'.tok = q3 at *
          generalize m'.qty = q4 at *
          generalize m'.most = q5 at *
          refine region_plan [(true, 0), (true, 1), (true, 2), (true, 3), (true, 4), (true, 5), (true, 6), (true, 7), (true, 8), (true, 9), (true, 10), (true, 11), (true, 12), (true, 13), (true, 14), (true, 15), (true, 16), (true, 17), (true, 18), (true, 19), (true, 20), (true, 21), (true, 22), (true, 23), (true, 24), (true, 25), (true, 26), (true, 27), (true, 28), (true, 29), (true, 30), (true, 31), (true, 32), (true, 33), (true, 34), (true, 35), (true, 36), (true, 37), (true, 38), (true, 39), (true, 40), (true, 41), (true, 42), (true, 43), (true, 44), (true, 45), (true, 46)]
            (fun y => y.cell? ⟨Y, 0, none⟩ = some (.bool q1) ∧ y.cell? ⟨Y, 1, none⟩ = some (.bool q2) ∧ y.cell? ⟨Y, 2, none⟩ = some (.int .u16 (q3 : Int)) ∧ y.cell? ⟨Y, 3, none⟩ = some (.int .u16 (q4 : Int)) ∧ y.cell? ⟨Y, 4, none⟩ = some (.int .u16 (q5 : Int)) ∧
              y.cell? ⟨R, 1, none⟩ = some (.bool q1) ∧ y.cell? ⟨R, 2, none⟩ = some (.bool q2) ∧ y.cell? ⟨R, 3, none⟩ = some (.int .u16 (q3 : Int)) ∧ y.cell? ⟨R, 4, none⟩ = some (.int .u16 (q4 : Int)) ∧ y.cell? ⟨R, 5, none⟩ = some (.int .u16 (q5 : Int))) (by kernel_rfl) (by kernel_rfl) (by kernel_rfl) rfl ⟨d0, d1, d2, d3, d4, r1, r2, r3, r4, r5⟩ ?_
          clear d0 d1 d2 d3 d4 r1 r2 r3 r4 r5
          generalize ye.drew = yf at *
          iterate 47 (refine Plan.take (v := ?_) rfl (by rfl) ?_ ?_; rotate_left 1; (focus (intro x hx; go_simp <;> (first | with_reducible rfl | rw [if_pos (by omega)]))); simp only [Act.put, List.setIfInBounds_toArray, List.set_cons_zero, List.set_cons_succ])
          refine Plan.done ?_
          go_wp2
          go_roundw
          case rel => exact ⟨i + 1, now', by omega, hnow', by go_num, rfl, Lib.hid ⟨m', H6.out⟩⟩
          case measure => simp [intOf]; omega
    · have hkn : n = i := by omega
      subst hkn
      have hex : (¬ (n : Int) < (n0 : Int)) ∨ ((n : Int) < (n0 : Int) ∧ ¬ (n : Int) < 300) := by have := HLS.out; omega
      rcases hex with hl1 | ⟨hl1, hl2⟩
      all_goals
        go_wp2
        go_ret
        exact ⟨rfl, H.out.lm.below⟩

end Go.Proofs.Ytdcnmbglbopgdaa
