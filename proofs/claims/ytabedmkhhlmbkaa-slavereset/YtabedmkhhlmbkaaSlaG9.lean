/-
  The ops of lamplightlaw08.line: the first frame up comes to the master (kind 9).
-/
import Derived.Test.YtabedmkhhlmbkaaSlaF
import Derived.Deep.DeepCutAuto
namespace Go.Proofs.Ytabedmkhhlmbkaa
set_option linter.unusedVariables false
set_option linter.unusedSimpArgs false
open Go.RowKit

set_option maxRecDepth 20000 in
set_option maxHeartbeats 6400000 in
theorem does_heard9 {w x : World} {L D S N cd cu : Nat} {l : Ln} {Ad Au : Option Addr} {td tu : List Kf} (h : Lx w L D S N l Ad Au cd cu td tu x) (hv : Ivx l) (hN : N ≤ 100000) :
    Calls Try.prog 22 #[.pointer (some ⟨L, 0, none⟩), .agg #[.int .i64 9]] x (DoesPost w L D S N l 9) := by
  have HP : Hid (∀ y l', (heardL l).1 = l' → Lxx w L D S (N + 1) l' y → DoesPost w L D S N l 9 (.returned (.bool true)) y) := fun y l' he hh => ⟨rfl, by
    have e : (doesL l 9).1 = l' := by unfold doesL; rw [if_neg (by omega), if_neg (by omega), if_neg (by omega), if_neg (by omega), if_pos (by omega)]; exact he
    rw [e]; exact hh⟩
  have HX := Lib.hid (h.step (new_below x (.cells #[.int .i64 9] 56)))
  have HUB := Lib.hid (ivx_up hv)
  have HNU : Hid (l.heard + 1 ≤ N + 1) := Lib.hid (Nat.succ_le_succ h.nums.2.2.2)
  have hT : (heardL l).2 = true := by
    obtain ⟨A, T, ds, us, hv⟩ := hv
    exact (iv_heard hv).1
  have HTT := Lib.hid hT
  clear h hv hT
  generalize DoesPost w L D S N l 9 = Q at *
  go_enter Try.func22, Try.ntmps22
  go_upto_region 29 with fail
  generalize x.alloc (.cells #[.int .i64 9] 56) = x1 at *
  have c3 := HX.out.lc.c3
  cases hu : l.up with
  | nil =>
    rw [hu] at c3
    simp only [List.length_nil] at c3
    have HE : Hid ((heardL l).1 = l) := by show _ = _; unfold heardL; rw [hu]
    go_wp2
    exact HP.out _ _ HE.out ⟨_, _, _, _, _, _, HX.out.more (Nat.le_succ N)⟩
  | cons f u =>
    obtain ⟨hok, hcase⟩ := heardL_cases hu HTT.out
    have HCS := Lib.hid hcase
    have HOK := Lib.hid hok
    have hq := HX.out.up
    rw [hu] at hq
    obtain ⟨g, o, t, r, htu, -, -, hA, -, hcap, -, -⟩ := hq.head
    subst hA htu
    have HHU := Lib.hid hu
    have HFB := Lib.hid (HUB.out f (by rw [hu]; simp))
    have hlen : (l.up.length : Int) = (u.length : Int) + 1 := by rw [hu]; simp
    have hne0 : (((u.length + 1 : Nat) : Int) == 0) = false := by simp; omega
    rw [hu] at c3
    simp only [List.length_cons] at c3
    clear hcase hok hq hlen
    generalize hul : u.length = un at *
    go_upto_region 31 with fail
    have HX1 := Lib.hid (HX.out.step (drew_below x1))
    have hq : Fq x1.drew w.heap.size (some ⟨g, o, none⟩) cu (t :: r) (f :: u) := by rw [← HHU.out]; exact HX1.out.up
    obtain ⟨hsix, hhb⟩ := hq.six
    have HHB := Lib.hid hhb
    have hc := HX1.out.lc
    have d3 := hc.c3
    rw [HHU.out] at d3
    simp only [List.length_cons, hul] at d3
    refine region_plan [(true, 0), (true, 1), (true, 2), (true, 3), (true, 4), (true, 5), (true, 6), (true, 7), (true, 8), (true, 9), (false, 10), (true, 11), (true, 12), (true, 13), (true, 14), (true, 15)]
      (fun y => y.cell? ⟨L, 0, none⟩ = some (.pointer (some ⟨D, 0, none⟩)) ∧ y.cell? ⟨L, 3, none⟩ = some (.slice (some ⟨g, o, none⟩) (un + 1) cu) ∧ y.cell? ⟨g, o, none⟩ = some (.int .u8 (f.a : Int)) ∧ y.cell? ⟨g, o + 1, none⟩ = some (.int .u8 (f.k : Int)) ∧ y.cell? ⟨g, o + 2, none⟩ = some (.int .u8 (f.s : Int)) ∧ y.cell? ⟨g, o + 3, none⟩ = some (.int .u8 (f.q : Int)) ∧ y.cell? ⟨g, o + 4, none⟩ = some (.int .u8 (f.c : Int)) ∧ y.cell? ⟨g, o + 5, none⟩ = some (.slice t.A f.b.length t.c)) (by kernel_rfl) (by kernel_rfl) (by kernel_rfl) rfl ⟨hc.c0, d3, hsix⟩ ?_
    clear hc d3 hsix hhb hq c3 HX
    generalize x1.drew = x2 at *
    iterate 10 (refine Plan.take (v := ?_) rfl (by rfl) ?_ ?_; rotate_left 1; (focus (intro x hx; go_simp <;> (first | with_reducible rfl | rw [if_pos (by omega)]))); simp only [Act.put, List.setIfInBounds_toArray, List.set_cons_zero, List.set_cons_succ])
    refine Plan.loud rfl (fun K hK => ?_)
    go_simp
    refine (heard_lm (f := f) HX1.out.m (by omega) HHB.out.wide (by have := HFB.out.1; omega)).mono ?_
    rintro e x3 ⟨A5, c5, rfl, ho5, h5, hf5⟩
    have HX3 : Hid (Lx w L D S (N + 1) { l with m := (heardM l.m f).1 } Ad (some ⟨g, o, none⟩) cd cu td (t :: r) x3) := HX1.out.mas h5 hf5 (Nat.le_succ N)
    have HO3 := Lib.hid (own_zero ho5)
    have hc := HX3.out.lc
    have d3 : x3.cell? ⟨L, 3, none⟩ = some (.slice (some ⟨g, o, none⟩) (un + 1) cu) := by have := hc.c3; simp only [HHU.out, List.length_cons, hul] at this; exact this
    have f3 := hc.fz 3
    have hq : Fq x3 w.heap.size (some ⟨g, o, none⟩) cu (t :: r) (f :: u) := by rw [← HHU.out]; exact HX3.out.up
    refine hK.out _ _ _ (fun x hx => hx) ⟨hc.c0, d3, hq.six.1⟩ ?_
    clear hK K hc hq ho5 h5 hf5 HX1 HHB
    rw [HOK.out]
    generalize hmf : (heardM l.m f).1 = m' at *
    generalize (heardM l.m f).2.1 = out at *
    iterate 5 (refine Plan.take (v := ?_) rfl (by rfl) ?_ ?_; rotate_left 1; (focus (intro x hx; go_simp <;> (first | with_reducible rfl | rw [if_pos (by omega)]))); simp only [Act.put, List.setIfInBounds_toArray, List.set_cons_zero, List.set_cons_succ])
    refine Plan.done ?_
    go_upto_region 32 with fail
    go_cut [] (fun y => Hid (∃ Au' cu' tu', Lx w L D S (N + 1) { l with m := m', up := u } Ad Au' cd cu' td tu' y) ∧ Hid (y.ownsRow 0 5 1 (.slice A5 out.length c5) out.length (bcs out)))
    case first =>
      have K := HX3.out.cutUp (f := f) (u := u) HHU.out
      have hftL : Ft w.heap.size [60] x3 (sets L [(3, .slice (if cu = 1 then some ⟨g, o, none⟩ else some ⟨g, o + 6, none⟩) u.length (cu - 1))] x3) := Ft.of_ch (sets_row _ HX3.out.row).2 (fun y hy _ => by simp at hy; subst hy; exact ⟨HX3.out.le, _, _, _, HX3.out.row, by simp⟩)
      have KO := own_ft HO3.out hftL (by decide)
      obtain ⟨c', hc'⟩ : ∃ c', cu = c' + 1 := ⟨cu - 1, by omega⟩
      subst hc'
      rw [hul] at K KO
      by_cases hz : c' = 0
      · subst hz
        have hun : un = 0 := by omega
        subst hun
        have KK := Lib.hid K
        have KKO := Lib.hid KO
        simp only [Nat.zero_add, ↓reduceIte, Nat.sub_self] at KK KKO
        clear K KO hftL
        go_wp2
        go_meet
        case rel => exact ⟨⟨_, _, _, KK.out⟩, KKO⟩
      · have e : ¬ c' + 1 = 1 := by omega
        have KK := Lib.hid K
        have KKO := Lib.hid KO
        simp only [e, ↓reduceIte, Nat.add_sub_cancel] at KK KKO
        clear K KO hftL
        go_wp2
        go_meet
        case rel => exact ⟨⟨_, _, _, KK.out⟩, KKO⟩
    case rest =>
      clear HX3 HO3 d3 f3
      obtain ⟨HXE, HO⟩ := hcut
      obtain ⟨Au', cu', tu', hx⟩ := HXE.out
      have HX4 := Lib.hid hx
      clear hx HXE
      rcases HCS.out with ⟨hout, hl'⟩ | ⟨hho, hout, hl'⟩
      · subst hout
        have HL' := Lib.hid hl'
        clear hl' HCS
        simp only [List.length_nil]
        go_wp2
        exact HP.out _ _ HL'.out ⟨_, _, _, _, _, _, HX4.out⟩
      · subst hout
        have HL' := Lib.hid hl'
        have HHO := Lib.hid hho
        clear hl' HCS hho
        rw [show (itmB l.heard).length = 2 from rfl] at HO ⊢
        go_upto_region 36 with fail
        rename World => x4
        have HX5 := Lib.hid (HX4.out.step (drew_below x4))
        have HO5 := Lib.hid (own_ft (B := 0) (T := []) HO.out (Ft.of_below (drew_below x4)) (by simp))
        have hc := HX5.out.lc
        obtain ⟨hv, hhv⟩ : ∃ hv, l.heard = hv := ⟨_, rfl⟩
        obtain ⟨ov, hov⟩ : ∃ ov, l.offered = ov := ⟨_, rfl⟩
        have d7 : x4.drew.cell? ⟨L, 7, none⟩ = some (.int .i64 (hv : Int)) := by rw [← hhv]; exact hc.c7
        have d6 : x4.drew.cell? ⟨L, 6, none⟩ = some (.int .i64 (ov : Int)) := by rw [← hov]; exact hc.c6
        have hlt : ¬ (ov : Int) ≤ (hv : Int) := by have := HHO.out; omega
        have hv5 : hv ≤ 200000 := by have := HX5.out.nums.2.2.2; simp only at this; omega
        obtain ⟨u1, hu1⟩ : ∃ u1, hv % 256 = u1 := ⟨_, rfl⟩
        have hmm : (hv : Int) % 256 = (u1 : Int) := by omega
        have hwr : IntKind.u8.wrap (hv : Int) = (u1 : Int) := by rw [IntKind.wrap_u8]; omega
        rw [hhv] at HO5
        have HHV := Lib.hid hhv
        have HU1 := Lib.hid hu1
        have HOV := Lib.hid hov
        clear hc hhv hov hu1
        refine region_plan [(true, 0), (true, 1), (true, 2), (true, 3), (true, 4), (true, 5), (true, 6), (true, 7), (true, 8), (true, 9), (true, 10), (true, 11), (true, 12), (true, 13), (true, 14), (true, 15), (true, 16), (false, 17), (true, 18), (true, 19), (true, 20)]
          (fun y => y.cell? ⟨L, 7, none⟩ = some (.int .i64 (hv : Int)) ∧ y.cell? ⟨L, 6, none⟩ = some (.int .i64 (ov : Int)) ∧ (convert 28 9 (.slice A5 2 c5)).run Try.prog y = .ok (.string ⟨(itmB hv).toArray⟩) y) (by kernel_rfl) (by kernel_rfl) (by kernel_rfl) rfl ⟨d7, d6, convert_own HO5.out rfl⟩ ?_
        clear d7 d6
        generalize x4.drew = x5 at *
        have HB6 := Lib.hid (new_below x5 (.cells #[.int .u8 (u1 : Int), .int .u8 2] 5))
        have HX6 := Lib.hid (HX5.out.step HB6.out)
        have HO6 := Lib.hid (own_ft (B := 0) (T := []) HO5.out (Ft.of_below HB6.out) (by simp))
        have HCV : Hid ((convert 28 9 (.slice (some ⟨x5.heap.size, 0, none⟩) 2 2)).run Try.prog (x5.alloc (.cells #[.int .u8 (u1 : Int), .int .u8 2] 5)) = .ok (.string ⟨(itmB hv).toArray⟩) (x5.alloc (.cells #[.int .u8 (u1 : Int), .int .u8 2] 5))) := by
          obtain ⟨g2, hg2, _⟩ := two_row x5 hv u1 2 HU1.out
          exact convert_holds hg2 rfl
        have HC6 := Lib.hid (convert_own HO6.out (l := itmB hv) rfl)
        clear HO5 HO6 HO
        generalize itmB hv = ib at *
        iterate 17 (first | (refine Plan.take (v := ?_) rfl (by rfl) ?_ ?_; rotate_left 1; (focus (intro x hx; go_simp <;> (first | with_reducible rfl | rw [if_pos (by omega)]))); simp only [Act.put, List.setIfInBounds_toArray, List.set_cons_zero, List.set_cons_succ]) | (refine Plan.skip rfl (by rfl) ?_; simp only [Act.put, List.setIfInBounds_toArray, List.set_cons_zero, List.set_cons_succ]))
        refine Plan.loud rfl (fun K hK => ?_)
        go_simp
        refine hK.out (fun y => (y.cell? ⟨L, 7, none⟩ = some (.int .i64 (hv : Int)) ∧ y.cell? ⟨L, 6, none⟩ = some (.int .i64 (ov : Int)) ∧ (convert 28 9 (.slice A5 2 c5)).run Try.prog y = .ok (.string ⟨ib.toArray⟩) y) ∧ (convert 28 9 (.slice (some ⟨x5.heap.size, 0, none⟩) 2 2)).run Try.prog y = .ok (.string ⟨ib.toArray⟩) y) _ _ (fun x hx => hx.1) ⟨⟨?_, ?_, HC6.out⟩, HCV.out⟩ ?_
        · rw [← HHV.out]; exact HX6.out.lc.c7
        · rw [← HOV.out]; exact HX6.out.lc.c6
        clear hK K
        iterate 3 (first | (refine Plan.take (v := ?_) rfl (by rfl) ?_ ?_; rotate_left 1; (focus (intro x hx; go_simp <;> (first | with_reducible rfl | rw [if_pos (by omega)]))); simp only [Act.put, List.setIfInBounds_toArray, List.set_cons_zero, List.set_cons_succ]) | (refine Plan.skip rfl (by rfl) ?_; simp only [Act.put, List.setIfInBounds_toArray, List.set_cons_zero, List.set_cons_succ]))
        refine Plan.done ?_
        have hc := HX6.out.lc
        have d7 : (x5.alloc (.cells #[.int .u8 (u1 : Int), .int .u8 2] 5)).cell? ⟨L, 7, none⟩ = some (.int .i64 (hv : Int)) := by rw [← HHV.out]; exact hc.c7
        have f7 := hc.fz 7
        have HX7 := Lib.hid (HX6.out.set (l' := { l with m := m', up := u, heard := l.heard + 1 }) (M := N + 1) [(7, .int .i64 ((hv : Int) + 1))] rfl rfl (Nat.le_refl _) (by rw [← HHV.out]; simp [setsA]) HX6.out.dn HX6.out.up HX6.out.ne ⟨HX6.out.nums.1, HX6.out.nums.2.1, HX6.out.nums.2.2.1, HNU.out⟩)
        clear hc HC6 HCV
        generalize x5.alloc (.cells #[.int .u8 (u1 : Int), .int .u8 2] 5) = x6 at *
        generalize x5.heap.size = G6 at *
        go_wp2
        exact HP.out _ _ HL'.out ⟨_, _, _, _, _, _, HX7.out⟩


end Go.Proofs.Ytabedmkhhlmbkaa
