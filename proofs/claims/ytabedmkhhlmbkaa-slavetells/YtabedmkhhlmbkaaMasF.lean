/-
  master's Heard, as it landed: what it answers.
-/
import Derived.Test.YtabedmkhhlmbkaaMasE
namespace Go.Proofs.Ytabedmkhhlmbkaa
set_option linter.unusedVariables false
set_option linter.unusedSimpArgs false
open Go.RowKit

/-- What Heard answers. -/
def HeardPost (w : World) (B D : Nat) (m : Ma) (f : Fr) (e : Ending) (w' : World) : Prop :=
  ∃ A c, e = .returned (.tuple #[.slice A (heardM m f).2.1.length c, .bool (heardM m f).2.2]) ∧ w'.ownsRow w.heap.size 5 1 (.slice A (heardM m f).2.1.length c) (heardM m f).2.1.length (bcs (heardM m f).2.1) ∧ Ms w' B D (heardM m f).1 ∧ Ft B [80, 28] w w'

/-- While it hears: the master, the frame at X, its bytes. -/
structure Hd (w : World) (B D : Nat) (m : Ma) (X : Nat) (f : Fr) (A : Option Addr) (c : Nat) (x : World) : Prop where
  mas : Ms x B D m
  box : Fx x X f (.slice A f.b.length c)
  hb : Hb x B A f.b
  ft : Ft B [80, 28] w x
theorem Hd.step {w x y : World} {B D X c : Nat} {m : Ma} {f : Fr} {A : Option Addr} (h : Hd w B D m X f A c x) (hb : Below x.heap.size x y) : Hd w B D m X f A c y := ⟨h.mas.step hb, h.box.step hb, h.hb.step hb, h.ft.step hb⟩
theorem Hd.turn {w x y : World} {B D X c : Nat} {m m' : Ma} {f : Fr} {A : Option Addr} (h : Hd w B D m X f A c x) (hm : Ms y B D m') (hf : Ft B [80, 28] x y) : Hd w B D m' X f A c y := ⟨hm, h.box.ft hf (by decide), h.hb.ft hf (by decide), h.ft.trans hf⟩

set_option maxRecDepth 20000 in
set_option maxHeartbeats 1600000 in
theorem heard_on {w : World} {B D N c : Nat} {m : Ma} {f : Fr} {A : Option Addr} (h : Ms w B D m) (hN : m.Ok N) (hle : N ≤ 1000000) (hb : Hb w B A f.b) (hfl : f.b.length ≤ 1000000) : Calls Try.prog 27 #[.pointer (some ⟨D, 0, none⟩), .agg (fcs f (.slice A f.b.length c))] w (HeardPost w B D m f) := by
  have HP : Hid (∀ e w' r, heardM m f = r → ((∃ A c, e = .returned (.tuple #[.slice A r.2.1.length c, .bool r.2.2]) ∧ w'.ownsRow w.heap.size 5 1 (.slice A r.2.1.length c) r.2.1.length (bcs r.2.1) ∧ Ms w' B D r.1 ∧ Ft B [80, 28] w w') → HeardPost w B D m f e w')) := by
    rintro e w' r rfl hh
    exact hh
  have HM : Hid (heardM m f = if lisM m f = false then (m, [], false) else if m.st ≠ 1 then (riseM (quiet m), [], true) else if f.s ≠ m.ses then (closeM (quiet m), [], true) else if f.k = 5 then ((freshM (settleM (quiet m) f.c) f).1, (freshM (settleM (quiet m) f.c) f).2, true) else (quiet m, [], true)) := rfl
  have HB := Lib.hid (new_below w (.cells (fcs f (.slice A f.b.length c)) 30))
  have H0 : Hid (Hd w B D m w.heap.size f A c (w.alloc (.cells (fcs f (.slice A f.b.length c)) 30))) := ⟨h.step HB.out, heap_alloc_new w _, hb.step HB.out, Ft.of_below HB.out⟩
  have HN := Lib.hid hN
  have HW : Hid (w.heap.size ≤ (w.alloc (.cells (fcs f (.slice A f.b.length c)) 30)).heap.size) := HB.out.size
  have HFL := Lib.hid hfl
  clear h hb hN HB hfl
  generalize HeardPost w B D m f = Q at *
  generalize heardM m f = r at *
  go_enter Try.func27, Try.ntmps27
  go_wp2_with fail
  refine (listens_on (f := f) H0.out.mas).mono ?_
  rintro e x1 ⟨rfl, hb1⟩
  have H1 := Lib.hid (H0.out.step hb1)
  generalize hX : w.heap.size = X at *
  clear hX
  have HW1 : Hid (X ≤ x1.heap.size) := Nat.le_trans HW.out hb1.size
  clear hb1 H0 HW
  cases hlis : lisM m f with
  | false =>
    rw [hlis, if_pos rfl] at HM
    go_wp2
    refine HP.out _ _ _ HM.out ⟨none, 0, rfl, World.ownsRow_nil _ _ _ _, H1.out.mas, H1.out.ft⟩
  | true =>
    rw [hlis, if_neg (by simp)] at HM
    obtain ⟨A1, cc1, hc⟩ := H1.out.mas.mc
    have c7 := hc.c7
    have f7 := hc.fz 7
    have K1 := Lib.hid (H1.out.mas.turn [(7, .int .i64 0)] (quiet m) rfl (fun V => rfl))
    have H2 : Hid (Hd w B D (quiet m) X f A c (x1.setCell ⟨D, 7, none⟩ (.int .i64 0))) := H1.out.turn K1.out.1 (K1.out.2.mono (Nat.le_refl _) (by simp))
    have HW2 : Hid (X ≤ (x1.setCell ⟨D, 7, none⟩ (.int .i64 0)).heap.size) := Nat.le_trans HW1.out K1.out.2.size
    have HNQ := Lib.hid (quiet_ok HN.out)
    clear hc
    go_upto_region 4 with fail
    clear c7 f7 K1 H1 HW1
    generalize x1.setCell ⟨D, 7, none⟩ (.int .i64 0) = x2 at *
    obtain ⟨A1, cc1, hc⟩ := H2.out.mas.mc
    have c5 := hc.c5
    have c3 := hc.c3
    have e1 := H2.out.box.fc.c1
    have e2 := H2.out.box.fc.c2
    clear hc
    change x2.cell? _ = some (.int .i64 (m.st : Int)) at c5
    change x2.cell? _ = some (.int .u8 (m.ses : Int)) at c3
    by_cases hst : m.st = 1
    · have hst' : (m.st : Int) = 1 := by omega
      rw [hst'] at c5
      rw [if_neg (by omega)] at HM
      go_upto_region 6 with fail
      replace H2 := Lib.hid (H2.out.step (drew_below x2))
      replace HW2 : Hid (X ≤ x2.drew.heap.size) := HW2.out
      refine region_plan [(true, 0), (true, 1), (true, 2), (true, 3), (true, 4), (true, 5), (true, 6), (true, 7)]
        (fun y => y.cell? ⟨X, 2, none⟩ = some (.int .u8 (f.s : Int)) ∧ y.cell? ⟨D, 3, none⟩ = some (.int .u8 (m.ses : Int))) (by kernel_rfl) (by kernel_rfl) (by kernel_rfl) rfl ⟨e2, c3⟩ ?_
      clear c3 c5 e1 e2
      generalize x2.drew = x3 at *
      have e1 := H2.out.box.fc.c1
      have e4 := H2.out.box.fc.c4
      iterate 8 (refine Plan.take (v := ?_) rfl (by rfl) ?_ ?_; rotate_left 1; (focus (intro x hx; go_simp <;> (first | with_reducible rfl | rw [if_pos (by omega)]))); simp only [Act.put, List.setIfInBounds_toArray, List.set_cons_zero, List.set_cons_succ])
      refine Plan.done ?_
      by_cases hs : f.s = m.ses
      · rw [if_neg (by omega)] at HM
        rw [hs]
        by_cases hk : f.k = 5
        · rw [if_pos hk] at HM
          rw [hk] at e1
          go_wp2_with fail
          refine (settle_on H2.out.mas HNQ.out f.c).mono ?_
          rintro e x4 ⟨rfl, g1, g2⟩
          have H4 := Lib.hid (H2.out.turn g1 g2)
          have HN4 := Lib.hid (settleM_ok HNQ.out f.c)
          have HW4 : Hid (X ≤ x4.heap.size) := Nat.le_trans HW2.out g2.size
          clear g1 g2 H2 HW2 e1 e4 hk hs
          have hfA := H4.out.box.fc
          have e0 := hfA.c0
          have e1 := hfA.c1
          have e2 := hfA.c2
          have e3 := hfA.c3
          have e4 := hfA.c4
          have e5 := hfA.c5
          clear hfA
          go_wp2_with fail
          refine (fresh_on (f := f) H4.out.mas HN4.out H4.out.hb HFL.out).mono ?_
          rintro e x5 ⟨A5, c5, rfl, ho, g1, g2⟩
          have K1 := Lib.hid ho
          have K2 := Lib.hid g1
          have K3 := Lib.hid g2
          clear ho g1 g2 e0 e1 e2 e3 e4 e5
          generalize hfr : freshM (settleM (quiet m) f.c) f = fr at *
          go_wp2
          refine HP.out _ _ _ HM.out ⟨A5, c5, rfl, own_mono K1.out HW4.out, K2.out, H4.out.ft.trans (K3.out.mono (Nat.le_refl _) (by simp))⟩
        · rw [if_neg hk] at HM
          have hk' : ((f.k : Int) == 5) = false := by simp; omega
          go_wp2
          refine HP.out _ _ _ HM.out ⟨none, 0, rfl, World.ownsRow_nil _ _ _ _, H2.out.mas, H2.out.ft⟩
      · rw [if_pos hs] at HM
        have hs' : ((f.s : Int) != (m.ses : Int)) = true := by simp; omega
        go_wp2_with fail
        refine (close_on H2.out.mas HN.out.ses0 HN.out.ses).mono ?_
        rintro e x4 ⟨rfl, g1, g2⟩
        have H4 := Lib.hid (H2.out.turn g1 (g2.mono (Nat.le_refl _) (by simp)))
        clear g1 g2 H2
        go_wp2
        refine HP.out _ _ _ HM.out ⟨none, 0, rfl, World.ownsRow_nil _ _ _ _, H4.out.mas, H4.out.ft⟩
    · rw [if_pos hst] at HM
      have hst' : ((m.st : Int) != 1) = true := by simp; omega
      go_wp2_with fail
      refine (rise_on H2.out.mas (Nat.le_trans HN.out.ep hle)).mono ?_
      rintro e x4 ⟨rfl, g1, g2⟩
      have H4 := Lib.hid (H2.out.turn g1 (g2.mono (Nat.le_refl _) (by simp)))
      clear g1 g2 H2
      go_wp2
      refine HP.out _ _ _ HM.out ⟨none, 0, rfl, World.ownsRow_nil _ _ _ _, H4.out.mas, H4.out.ft⟩

end Go.Proofs.Ytabedmkhhlmbkaa
