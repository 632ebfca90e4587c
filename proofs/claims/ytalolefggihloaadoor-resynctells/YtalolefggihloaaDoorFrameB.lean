/-
  The method bytes of what is sent, as it landed: what it answers. The row of its one part may be made ahead of any of the five numbers that are put, or behind them.
-/
import Derived.Test.YtalolefggihloaaDoorFrameA
import Derived.Test.YtalolefggihloaaDoorFTrees
namespace Go.Proofs.YtalolefggihloaaDoor
set_option linter.unusedVariables false
set_option linter.unusedSimpArgs false
open Go.RowKit

theorem wu8_on {W g n : Nat} {l : List UInt8} {w : World} (h : Wtr w W g l) (hl : l.length ≤ 549755813888) (hn : n < 256) :
    Calls Tryd.prog 37 #[.pointer (some ⟨W, 0, none⟩), .int .u8 (n : Int)] w (WtPost w W g (l ++ [UInt8.ofNat n])) :=
  wu8_any W g l (n : Int) w h hl (by omega) (by omega)

theorem wbytes_one {W g Y gs n cap : Nat} {A : Option Addr} {l L : List UInt8} {w : World} (h : Wtr w W g l) (hy : w.cell? ⟨Y, 0, none⟩ = some (.slice A n cap)) (hn : L.length = n) (hh : Holds w gs A (bcs L)) (hYW : Y ≠ W) (hYg : Y ≠ g)
    (hsW : 0 < L.length → gs ≠ W) (hsg : 0 < L.length → gs ≠ g) (hl : l.length + L.length ≤ 1099511627776) :
    Calls Tryd.prog 38 #[.pointer (some ⟨W, 0, none⟩), .slice (some ⟨Y, 0, none⟩) 1 1] w (WtPost w W g (l ++ L)) := by
  subst hn
  have := wbytes_any W g (some ⟨Y, 0, none⟩) 1 [L] l (fun b => b ≠ W ∧ b ≠ g) w h (by
    intro k x hk
    match k, hk with
    | 0, hk =>
      simp at hk
      subst hk
      exact ⟨Y, 0, gs, A, cap, rfl, ⟨hYW, hYg⟩, hy, fun h => ⟨hsW h, hsg h⟩, hh⟩) (fun h => h.1 rfl) (fun h => h.2 rfl) (by simp) (by simpa using hl)
  simpa using this

/-- While it is written: the writer, in W and g; what is sent, in block B; the frame's own bytes L, in gs; nothing that was there has turned. -/
structure Sb (w : World) (gs : Nat) (A : Option Addr) (L : List UInt8) (a k s q c n cap t m : Nat) (W g : Nat) (l : List UInt8) (j : Nat) (x : World) : Prop where
  wtr : Wtr x W g l
  len : l.length = j
  cells : x.cell? ⟨w.heap.size, 0, none⟩ = some (.int .u8 (a : Int)) ∧ x.cell? ⟨w.heap.size, 1, none⟩ = some (.int .u8 (k : Int)) ∧ x.cell? ⟨w.heap.size, 2, none⟩ = some (.int .u8 (s : Int)) ∧ x.cell? ⟨w.heap.size, 5, none⟩ = some (.slice A n cap) ∧ x.cell? ⟨w.heap.size, 6, none⟩ = some (.int .u8 (t : Int)) ∧ x.cell? ⟨w.heap.size, 7, none⟩ = some (.int .u8 (m : Int))
  src : Holds x gs A (bcs L)
  srclt : 0 < L.length → gs < w.heap.size
  below : Below w.heap.size w x
  le : w.heap.size < x.heap.size
  leW : w.heap.size < W
  leg : w.heap.size < g

theorem Sb.srcW {w x : World} {gs : Nat} {A : Option Addr} {L l : List UInt8} {a k s q c n cap t m W g j : Nat} (h : Sb w gs A L a k s q c n cap t m W g l j x) (hp : 0 < L.length) : gs ≠ W := by
  have := h.srclt hp
  have := h.leW
  omega
theorem Sb.srcg {w x : World} {gs : Nat} {A : Option Addr} {L l : List UInt8} {a k s q c n cap t m W g j : Nat} (h : Sb w gs A L a k s q c n cap t m W g l j x) (hp : 0 < L.length) : gs ≠ g := by
  have := h.srclt hp
  have := h.leg
  omega
theorem Sb.turn {w x y : World} {gs : Nat} {A : Option Addr} {L l l' : List UInt8} {a k s q c n cap t m W g g' j j' : Nat} (h : Sb w gs A L a k s q c n cap t m W g l j x) (hg : g' = g ∨ x.heap.size ≤ g') (hw : Wtr y W g' l') (hc : Ch [W, g] x y) (hj : l'.length = j') : Sb w gs A L a k s q c n cap t m W g' l' j' y := by
  have h1 := h.le
  have h2 := h.leW
  have h3 := h.leg
  have e : ∀ i, y.cell? ⟨w.heap.size, i, none⟩ = x.cell? ⟨w.heap.size, i, none⟩ := fun i => hc.cell (p := ⟨w.heap.size, i, none⟩) h1 (by simp; omega)
  obtain ⟨c0, c1, c2, c3, c4, c5⟩ := h.cells
  refine ⟨hw, hj, ⟨(e 0).trans c0, (e 1).trans c1, (e 2).trans c2, (e 5).trans c3, (e 6).trans c4, (e 7).trans c5⟩, h.src.keep hc (fun hp => ?_), h.srclt, h.below.trans (hc.belowAt (by simp; omega) (by omega)), Nat.lt_of_lt_of_le h1 hc.size, h2, by omega⟩
  rw [bcs_length] at hp
  have := h.srclt hp
  simp
  omega
theorem Sb.step {w x y : World} {gs : Nat} {A : Option Addr} {L l : List UInt8} {a k s q c n cap t m W g g' j : Nat} {b : UInt8} (h : Sb w gs A L a k s q c n cap t m W g l j x) (hg : g' = g ∨ x.heap.size ≤ g') (hw : Wtr y W g' (l ++ [b])) (hc : Ch [W, g] x y) : Sb w gs A L a k s q c n cap t m W g' (l ++ [b]) (j + 1) y :=
  h.turn hg hw hc (by simp [h.len])
theorem Sb.last {w x y : World} {gs : Nat} {A : Option Addr} {L l : List UInt8} {a k s q c n cap t m W g g' j : Nat} (h : Sb w gs A L a k s q c n cap t m W g l j x) (hg : g' = g ∨ x.heap.size ≤ g') (hw : Wtr y W g' (l ++ L)) (hc : Ch [W, g] x y) (hn : L.length = n) : Sb w gs A L a k s q c n cap t m W g' (l ++ L) (n + j) y :=
  h.turn hg hw hc (by simp [h.len, hn]; omega)
theorem Sb.alloc {w x : World} {gs : Nat} {A : Option Addr} {L l : List UInt8} {a k s q c n cap t m W g j : Nat} (h : Sb w gs A L a k s q c n cap t m W g l j x) (o : Obj) : Sb w gs A L a k s q c n cap t m W g l j (x.alloc o) :=
  h.turn (.inl rfl) (h.wtr.keep ((Ch.refl [] x).alloc o) (by simp) (by simp)) ((Ch.refl [W, g] x).alloc o) h.len
theorem Sb.far {w x y : World} {gs : Nat} {A : Option Addr} {L l : List UInt8} {a k s q c n cap t m W g j : Nat} (h : Sb w gs A L a k s q c n cap t m W g l j x) (hb : Below x.heap.size x y) :
    (y.cell? ⟨w.heap.size, 0, none⟩ = some (.int .u8 (a : Int)) ∧ y.cell? ⟨w.heap.size, 1, none⟩ = some (.int .u8 (k : Int)) ∧ y.cell? ⟨w.heap.size, 2, none⟩ = some (.int .u8 (s : Int)) ∧ y.cell? ⟨w.heap.size, 5, none⟩ = some (.slice A n cap) ∧ y.cell? ⟨w.heap.size, 6, none⟩ = some (.int .u8 (t : Int)) ∧ y.cell? ⟨w.heap.size, 7, none⟩ = some (.int .u8 (m : Int))) ∧ Below w.heap.size w y := by
  have h1 := h.le
  have e : ∀ i, y.cell? ⟨w.heap.size, i, none⟩ = x.cell? ⟨w.heap.size, i, none⟩ := fun i => hb.cell (p := ⟨w.heap.size, i, none⟩) h1
  obtain ⟨c0, c1, c2, c3, c4, c5⟩ := h.cells
  exact ⟨⟨(e 0).trans c0, (e 1).trans c1, (e 2).trans c2, (e 5).trans c3, (e 6).trans c4, (e 7).trans c5⟩, h.below.trans (hb.mono (by omega))⟩

/-- The row of the one part, in block Y. -/
structure Sy (A : Option Addr) (n cap W g Y : Nat) (x : World) : Prop where
  cell : x.cell? ⟨Y, 0, none⟩ = some (.slice A n cap)
  lt : Y < x.heap.size
  neW : Y ≠ W
  neg : Y ≠ g
theorem Sb.made {w x : World} {gs : Nat} {A : Option Addr} {L l : List UInt8} {a k s q c n cap t m W g j : Nat} (h : Sb w gs A L a k s q c n cap t m W g l j x) : Sy A n cap W g x.heap.size (x.alloc (.cells #[.slice A n cap] 32)) := by
  have h1 := h.wtr.lt
  exact ⟨(cell_alloc_new _ _ _ _ _ rfl).trans rfl, by simp, by omega, by omega⟩
theorem Sy.step {w x y : World} {gs : Nat} {A : Option Addr} {L l : List UInt8} {a k s q c n cap t m W g g' j Y : Nat} (hy : Sy A n cap W g Y x) (h : Sb w gs A L a k s q c n cap t m W g l j x) (hg : g' = g ∨ x.heap.size ≤ g') (hc : Ch [W, g] x y) : Sy A n cap W g' Y y := by
  have h1 := hy.lt
  have h2 := hy.neW
  have h3 := hy.neg
  exact ⟨(hc.cell (p := ⟨Y, 0, none⟩) h1 (by simp; omega)).trans hy.cell, Nat.lt_of_lt_of_le h1 hc.size, h2, by omega⟩

set_option maxHeartbeats 4000000 in
set_option maxRecDepth 100000 in
theorem sbytes_on {gs a k s q c n cap t m : Nat} {A : Option Addr} {L : List UInt8} {w : World} (h : Holds w gs A (bcs L)) (hn : L.length = n) (hn1 : n ≤ 1000) (ha : a < 256) (hk : k < 256) (hs : s < 256) (ht : t < 256) (hm : m < 256) :
    Calls Tryd.prog 26 #[.agg #[.int .u8 a, .int .u8 k, .int .u8 s, .int .u8 q, .int .u8 c, .slice A n cap, .int .u8 t, .int .u8 m]] w
      fun e w' => ∃ X, w.heap.size ≤ X ∧ e = .returned (.slice (some ⟨X, 0, none⟩) (n + 5) (n + 5)) ∧ Row w' X (plainB a k s t m L) ∧ Below w.heap.size w w' := by
  have HN := Lib.hid hn
  have HH := Lib.hid h
  clear h hn
  have hk' := hk
  go_enter Tryd.func26, Tryd.ntmps26
  go_wp2
  have HS : Hid (Sb w gs A L a k s q c n cap t m (w.heap.size + 1) (w.heap.size + 1) [] 0 ((w.alloc (.cells #[.int .u8 a, .int .u8 k, .int .u8 s, .int .u8 q, .int .u8 c, .slice A n cap, .int .u8 t, .int .u8 m] 67)).alloc (.cells #[.slice none 0 0] 86)).drew) := by
    have hsz : ((w.alloc (.cells #[.int .u8 a, .int .u8 k, .int .u8 s, .int .u8 q, .int .u8 c, .slice A n cap, .int .u8 t, .int .u8 m] 67)).alloc (.cells #[.slice none 0 0] 86)).heap.size = w.heap.size + 2 := by simp
    have hold := heap_alloc2_old w (.cells #[.int .u8 a, .int .u8 k, .int .u8 s, .int .u8 q, .int .u8 c, .slice A n cap, .int .u8 t, .int .u8 m] 67) (.cells #[.slice none 0 0] 86)
    have hnew := heap_alloc2_new w (.cells #[.int .u8 a, .int .u8 k, .int .u8 s, .int .u8 q, .int .u8 c, .slice A n cap, .int .u8 t, .int .u8 m] 67) (.cells #[.slice none 0 0] 86)
    have hch := (((Ch.refl [] w).alloc (.cells #[.int .u8 a, .int .u8 k, .int .u8 s, .int .u8 q, .int .u8 c, .slice A n cap, .int .u8 t, .int .u8 m] 67)).alloc (.cells #[.slice none 0 0] 86)).drew
    generalize ((w.alloc (.cells #[.int .u8 a, .int .u8 k, .int .u8 s, .int .u8 q, .int .u8 c, .slice A n cap, .int .u8 t, .int .u8 m] 67)).alloc (.cells #[.slice none 0 0] 86)) = x at *
    refine ⟨⟨_, hnew, ⟨by simp [bcs], .inl ⟨rfl, rfl⟩⟩, .inl ⟨rfl, rfl⟩⟩, rfl, ?_, HH.out.keep hch (by simp), fun hp => (HH.out (by rw [bcs_length]; exact hp)).1, hch.below (by simp), by show _ < x.heap.size; omega, by omega, by omega⟩
    have e : ∀ i, x.drew.cell? ⟨w.heap.size, i, none⟩ = (#[Value.int .u8 a, .int .u8 k, .int .u8 s, .int .u8 q, .int .u8 c, .slice A n cap, .int .u8 t, .int .u8 m])[i]? := by
      intro i
      show x.cell? _ = _
      simp only [World.cell?, hold]
      simp
    exact ⟨(e 0).trans rfl, (e 1).trans rfl, (e 2).trans rfl, (e 5).trans rfl, (e 6).trans rfl, (e 7).trans rfl⟩
  generalize ((w.alloc (.cells #[.int .u8 a, .int .u8 k, .int .u8 s, .int .u8 q, .int .u8 c, .slice A n cap, .int .u8 t, .int .u8 m] 67)).alloc (.cells #[.slice none 0 0] 86)) = x0 at *
  refine region_tree (.take 0 (.take 1 (.take 2 (.take 4 (.take 5 (.take 6 (.take 8 (.take 9 (.take 10 (.take 12 (.take 13 (.take 15 (.take 16 (.take 18 (.take 19 (.take 20 (.two 3 (.two 7 (.two 11 (.two 14 (.two 17 (.one 21 (.one 22 (.one 23 (.take 24 .done)))) 21 (.one 17 (.one 22 (.one 23 (.take 24 .done))))) 21 (.one 14 (.one 17 (.one 22 (.one 23 (.take 24 .done)))))) 21 (.one 11 (.one 14 (.one 17 (.one 22 (.one 23 (.take 24 .done))))))) 21 (.one 7 (.one 11 (.one 14 (.one 17 (.one 22 (.one 23 (.take 24 .done)))))))) 21 (.one 3 (.one 7 (.one 11 (.one 14 (.one 17 (.one 22 (.one 23 (.take 24 .done)))))))))))))))))))))))))
    (fun x => x.cell? ⟨w.heap.size, 0, none⟩ = some (.int .u8 (a : Int)) ∧ x.cell? ⟨w.heap.size, 1, none⟩ = some (.int .u8 (k : Int)) ∧ x.cell? ⟨w.heap.size, 2, none⟩ = some (.int .u8 (s : Int)) ∧ x.cell? ⟨w.heap.size, 5, none⟩ = some (.slice A n cap) ∧ x.cell? ⟨w.heap.size, 6, none⟩ = some (.int .u8 (t : Int)) ∧ x.cell? ⟨w.heap.size, 7, none⟩ = some (.int .u8 (m : Int)))
    (by kernel_rfl) (by kernel_rfl) (by kernel_rfl) (by kernel_rfl) HS.out.cells ?_
  iterate 16 (refine Tree.take (v := ?_) rfl (by rfl) ?_ ?_; rotate_left 1; (focus (intro x hx; go_simp <;> (first | with_reducible rfl | rw [if_pos (by omega)]))); simp only [Act.put, List.setIfInBounds_toArray, List.set_cons_zero, List.set_cons_succ])

  generalize x0.drew = x1 at *
  refine Tree.two rfl rfl (fun K hK => ?_) (fun K hK => ?_)
  · go_simp
    refine (wu8_on (n := a) HS.out.wtr (by rw [HS.out.len]; omega) ha).mono ?_
    rintro e y ⟨rfl, g1, hg1, hw1, hc1⟩
    replace HS := Lib.hid (HS.out.step hg1 hw1 hc1)
    clear hg1 hw1 hc1
    refine hK.out _ _ _ (fun x hx => hx) HS.out.cells ?_
    clear hK K
    refine Tree.two rfl rfl (fun K hK => ?_) (fun K hK => ?_)
    · go_simp
      refine (wu8_on (n := k) HS.out.wtr (by rw [HS.out.len]; omega) hk).mono ?_
      rintro e y ⟨rfl, g1, hg1, hw1, hc1⟩
      replace HS := Lib.hid (HS.out.step hg1 hw1 hc1)
      clear hg1 hw1 hc1
      refine hK.out _ _ _ (fun x hx => hx) HS.out.cells ?_
      clear hK K
      refine Tree.two rfl rfl (fun K hK => ?_) (fun K hK => ?_)
      · go_simp
        refine (wu8_on (n := s) HS.out.wtr (by rw [HS.out.len]; omega) hs).mono ?_
        rintro e y ⟨rfl, g1, hg1, hw1, hc1⟩
        replace HS := Lib.hid (HS.out.step hg1 hw1 hc1)
        clear hg1 hw1 hc1
        refine hK.out _ _ _ (fun x hx => hx) HS.out.cells ?_
        clear hK K
        refine Tree.two rfl rfl (fun K hK => ?_) (fun K hK => ?_)
        · go_simp
          refine (wu8_on (n := t) HS.out.wtr (by rw [HS.out.len]; omega) ht).mono ?_
          rintro e y ⟨rfl, g1, hg1, hw1, hc1⟩
          replace HS := Lib.hid (HS.out.step hg1 hw1 hc1)
          clear hg1 hw1 hc1
          refine hK.out _ _ _ (fun x hx => hx) HS.out.cells ?_
          clear hK K
          refine Tree.two rfl rfl (fun K hK => ?_) (fun K hK => ?_)
          · go_simp
            refine (wu8_on (n := m) HS.out.wtr (by rw [HS.out.len]; omega) hm).mono ?_
            rintro e y ⟨rfl, g1, hg1, hw1, hc1⟩
            replace HS := Lib.hid (HS.out.step hg1 hw1 hc1)
            clear hg1 hw1 hc1
            refine hK.out _ _ _ (fun x hx => hx) HS.out.cells ?_
            clear hK K
            refine Tree.one rfl (fun K hK => ?_)
            go_simp
            have HY := Lib.hid (HS.out.made)
            replace HS := Lib.hid (HS.out.alloc (.cells #[.slice A n cap] 32))
            refine hK.out _ _ _ (fun x hx => hx) HS.out.cells ?_
            clear hK K
            generalize World.alloc _ (.cells #[.slice A n cap] 32) = y at *
            refine Tree.one rfl (fun K hK => ?_)
            go_simp
            refine (wbytes_one HS.out.wtr HY.out.cell HN.out HS.out.src HY.out.neW HY.out.neg (fun h => HS.out.srcW h) (fun h => HS.out.srcg h) (by rw [HS.out.len, HN.out]; omega)).mono ?_
            rintro e y ⟨rfl, g1, hg1, hw1, hc1⟩
            have HE := Lib.hid (HS.out.last hg1 hw1 hc1 HN.out)
            clear hg1 hw1 hc1 HY HS
            refine hK.out _ _ _ (fun x hx => hx) HE.out.cells ?_
            clear hK K
            refine Tree.one rfl (fun K hK => ?_)
            go_simp
            refine (wdone_any _ _ _ _ HE.out.wtr (by rw [HE.out.len]; omega)).mono ?_
            rintro e y ⟨X, hX, rfl, hrow, hb⟩
            rw [HE.out.len]
            have HZ := Lib.hid (HE.out.far hb)
            have HX := Lib.hid (And.intro hrow (Nat.le_trans HE.out.le hX))
            clear hb hrow hX HE
            refine hK.out _ _ _ (fun x hx => hx) HZ.out.1 ?_
            clear hK K
            (refine Tree.take (v := ?_) rfl (by rfl) ?_ ?_; rotate_left 1; (focus (intro x hx; go_simp <;> (first | with_reducible rfl | rw [if_pos (by omega)]))); simp only [Act.put, List.setIfInBounds_toArray, List.set_cons_zero, List.set_cons_succ])
            refine Tree.done ?_
            go_wp2
            go_ret
            exact ⟨X, Nat.le_of_succ_le HX.out.2, rfl, HX.out.1, HZ.out.2⟩
          · go_simp
            have HY := Lib.hid (HS.out.made)
            replace HS := Lib.hid (HS.out.alloc (.cells #[.slice A n cap] 32))
            refine hK.out _ _ _ (fun x hx => hx) HS.out.cells ?_
            clear hK K
            generalize World.alloc _ (.cells #[.slice A n cap] 32) = y at *
            refine Tree.one rfl (fun K hK => ?_)
            go_simp
            refine (wu8_on (n := m) HS.out.wtr (by rw [HS.out.len]; omega) hm).mono ?_
            rintro e y ⟨rfl, g1, hg1, hw1, hc1⟩
            replace HY := Lib.hid (HY.out.step HS.out hg1 hc1)
            replace HS := Lib.hid (HS.out.step hg1 hw1 hc1)
            clear hg1 hw1 hc1
            refine hK.out _ _ _ (fun x hx => hx) HS.out.cells ?_
            clear hK K
            refine Tree.one rfl (fun K hK => ?_)
            go_simp
            refine (wbytes_one HS.out.wtr HY.out.cell HN.out HS.out.src HY.out.neW HY.out.neg (fun h => HS.out.srcW h) (fun h => HS.out.srcg h) (by rw [HS.out.len, HN.out]; omega)).mono ?_
            rintro e y ⟨rfl, g1, hg1, hw1, hc1⟩
            have HE := Lib.hid (HS.out.last hg1 hw1 hc1 HN.out)
            clear hg1 hw1 hc1 HY HS
            refine hK.out _ _ _ (fun x hx => hx) HE.out.cells ?_
            clear hK K
            refine Tree.one rfl (fun K hK => ?_)
            go_simp
            refine (wdone_any _ _ _ _ HE.out.wtr (by rw [HE.out.len]; omega)).mono ?_
            rintro e y ⟨X, hX, rfl, hrow, hb⟩
            rw [HE.out.len]
            have HZ := Lib.hid (HE.out.far hb)
            have HX := Lib.hid (And.intro hrow (Nat.le_trans HE.out.le hX))
            clear hb hrow hX HE
            refine hK.out _ _ _ (fun x hx => hx) HZ.out.1 ?_
            clear hK K
            (refine Tree.take (v := ?_) rfl (by rfl) ?_ ?_; rotate_left 1; (focus (intro x hx; go_simp <;> (first | with_reducible rfl | rw [if_pos (by omega)]))); simp only [Act.put, List.setIfInBounds_toArray, List.set_cons_zero, List.set_cons_succ])
            refine Tree.done ?_
            go_wp2
            go_ret
            exact ⟨X, Nat.le_of_succ_le HX.out.2, rfl, HX.out.1, HZ.out.2⟩
        · go_simp
          have HY := Lib.hid (HS.out.made)
          replace HS := Lib.hid (HS.out.alloc (.cells #[.slice A n cap] 32))
          refine hK.out _ _ _ (fun x hx => hx) HS.out.cells ?_
          clear hK K
          generalize World.alloc _ (.cells #[.slice A n cap] 32) = y at *
          refine Tree.one rfl (fun K hK => ?_)
          go_simp
          refine (wu8_on (n := t) HS.out.wtr (by rw [HS.out.len]; omega) ht).mono ?_
          rintro e y ⟨rfl, g1, hg1, hw1, hc1⟩
          replace HY := Lib.hid (HY.out.step HS.out hg1 hc1)
          replace HS := Lib.hid (HS.out.step hg1 hw1 hc1)
          clear hg1 hw1 hc1
          refine hK.out _ _ _ (fun x hx => hx) HS.out.cells ?_
          clear hK K
          refine Tree.one rfl (fun K hK => ?_)
          go_simp
          refine (wu8_on (n := m) HS.out.wtr (by rw [HS.out.len]; omega) hm).mono ?_
          rintro e y ⟨rfl, g1, hg1, hw1, hc1⟩
          replace HY := Lib.hid (HY.out.step HS.out hg1 hc1)
          replace HS := Lib.hid (HS.out.step hg1 hw1 hc1)
          clear hg1 hw1 hc1
          refine hK.out _ _ _ (fun x hx => hx) HS.out.cells ?_
          clear hK K
          refine Tree.one rfl (fun K hK => ?_)
          go_simp
          refine (wbytes_one HS.out.wtr HY.out.cell HN.out HS.out.src HY.out.neW HY.out.neg (fun h => HS.out.srcW h) (fun h => HS.out.srcg h) (by rw [HS.out.len, HN.out]; omega)).mono ?_
          rintro e y ⟨rfl, g1, hg1, hw1, hc1⟩
          have HE := Lib.hid (HS.out.last hg1 hw1 hc1 HN.out)
          clear hg1 hw1 hc1 HY HS
          refine hK.out _ _ _ (fun x hx => hx) HE.out.cells ?_
          clear hK K
          refine Tree.one rfl (fun K hK => ?_)
          go_simp
          refine (wdone_any _ _ _ _ HE.out.wtr (by rw [HE.out.len]; omega)).mono ?_
          rintro e y ⟨X, hX, rfl, hrow, hb⟩
          rw [HE.out.len]
          have HZ := Lib.hid (HE.out.far hb)
          have HX := Lib.hid (And.intro hrow (Nat.le_trans HE.out.le hX))
          clear hb hrow hX HE
          refine hK.out _ _ _ (fun x hx => hx) HZ.out.1 ?_
          clear hK K
          (refine Tree.take (v := ?_) rfl (by rfl) ?_ ?_; rotate_left 1; (focus (intro x hx; go_simp <;> (first | with_reducible rfl | rw [if_pos (by omega)]))); simp only [Act.put, List.setIfInBounds_toArray, List.set_cons_zero, List.set_cons_succ])
          refine Tree.done ?_
          go_wp2
          go_ret
          exact ⟨X, Nat.le_of_succ_le HX.out.2, rfl, HX.out.1, HZ.out.2⟩
      · go_simp
        have HY := Lib.hid (HS.out.made)
        replace HS := Lib.hid (HS.out.alloc (.cells #[.slice A n cap] 32))
        refine hK.out _ _ _ (fun x hx => hx) HS.out.cells ?_
        clear hK K
        generalize World.alloc _ (.cells #[.slice A n cap] 32) = y at *
        refine Tree.one rfl (fun K hK => ?_)
        go_simp
        refine (wu8_on (n := s) HS.out.wtr (by rw [HS.out.len]; omega) hs).mono ?_
        rintro e y ⟨rfl, g1, hg1, hw1, hc1⟩
        replace HY := Lib.hid (HY.out.step HS.out hg1 hc1)
        replace HS := Lib.hid (HS.out.step hg1 hw1 hc1)
        clear hg1 hw1 hc1
        refine hK.out _ _ _ (fun x hx => hx) HS.out.cells ?_
        clear hK K
        refine Tree.one rfl (fun K hK => ?_)
        go_simp
        refine (wu8_on (n := t) HS.out.wtr (by rw [HS.out.len]; omega) ht).mono ?_
        rintro e y ⟨rfl, g1, hg1, hw1, hc1⟩
        replace HY := Lib.hid (HY.out.step HS.out hg1 hc1)
        replace HS := Lib.hid (HS.out.step hg1 hw1 hc1)
        clear hg1 hw1 hc1
        refine hK.out _ _ _ (fun x hx => hx) HS.out.cells ?_
        clear hK K
        refine Tree.one rfl (fun K hK => ?_)
        go_simp
        refine (wu8_on (n := m) HS.out.wtr (by rw [HS.out.len]; omega) hm).mono ?_
        rintro e y ⟨rfl, g1, hg1, hw1, hc1⟩
        replace HY := Lib.hid (HY.out.step HS.out hg1 hc1)
        replace HS := Lib.hid (HS.out.step hg1 hw1 hc1)
        clear hg1 hw1 hc1
        refine hK.out _ _ _ (fun x hx => hx) HS.out.cells ?_
        clear hK K
        refine Tree.one rfl (fun K hK => ?_)
        go_simp
        refine (wbytes_one HS.out.wtr HY.out.cell HN.out HS.out.src HY.out.neW HY.out.neg (fun h => HS.out.srcW h) (fun h => HS.out.srcg h) (by rw [HS.out.len, HN.out]; omega)).mono ?_
        rintro e y ⟨rfl, g1, hg1, hw1, hc1⟩
        have HE := Lib.hid (HS.out.last hg1 hw1 hc1 HN.out)
        clear hg1 hw1 hc1 HY HS
        refine hK.out _ _ _ (fun x hx => hx) HE.out.cells ?_
        clear hK K
        refine Tree.one rfl (fun K hK => ?_)
        go_simp
        refine (wdone_any _ _ _ _ HE.out.wtr (by rw [HE.out.len]; omega)).mono ?_
        rintro e y ⟨X, hX, rfl, hrow, hb⟩
        rw [HE.out.len]
        have HZ := Lib.hid (HE.out.far hb)
        have HX := Lib.hid (And.intro hrow (Nat.le_trans HE.out.le hX))
        clear hb hrow hX HE
        refine hK.out _ _ _ (fun x hx => hx) HZ.out.1 ?_
        clear hK K
        (refine Tree.take (v := ?_) rfl (by rfl) ?_ ?_; rotate_left 1; (focus (intro x hx; go_simp <;> (first | with_reducible rfl | rw [if_pos (by omega)]))); simp only [Act.put, List.setIfInBounds_toArray, List.set_cons_zero, List.set_cons_succ])
        refine Tree.done ?_
        go_wp2
        go_ret
        exact ⟨X, Nat.le_of_succ_le HX.out.2, rfl, HX.out.1, HZ.out.2⟩
    · go_simp
      have HY := Lib.hid (HS.out.made)
      replace HS := Lib.hid (HS.out.alloc (.cells #[.slice A n cap] 32))
      refine hK.out _ _ _ (fun x hx => hx) HS.out.cells ?_
      clear hK K
      generalize World.alloc _ (.cells #[.slice A n cap] 32) = y at *
      refine Tree.one rfl (fun K hK => ?_)
      go_simp
      refine (wu8_on (n := k) HS.out.wtr (by rw [HS.out.len]; omega) hk).mono ?_
      rintro e y ⟨rfl, g1, hg1, hw1, hc1⟩
      replace HY := Lib.hid (HY.out.step HS.out hg1 hc1)
      replace HS := Lib.hid (HS.out.step hg1 hw1 hc1)
      clear hg1 hw1 hc1
      refine hK.out _ _ _ (fun x hx => hx) HS.out.cells ?_
      clear hK K
      refine Tree.one rfl (fun K hK => ?_)
      go_simp
      refine (wu8_on (n := s) HS.out.wtr (by rw [HS.out.len]; omega) hs).mono ?_
      rintro e y ⟨rfl, g1, hg1, hw1, hc1⟩
      replace HY := Lib.hid (HY.out.step HS.out hg1 hc1)
      replace HS := Lib.hid (HS.out.step hg1 hw1 hc1)
      clear hg1 hw1 hc1
      refine hK.out _ _ _ (fun x hx => hx) HS.out.cells ?_
      clear hK K
      refine Tree.one rfl (fun K hK => ?_)
      go_simp
      refine (wu8_on (n := t) HS.out.wtr (by rw [HS.out.len]; omega) ht).mono ?_
      rintro e y ⟨rfl, g1, hg1, hw1, hc1⟩
      replace HY := Lib.hid (HY.out.step HS.out hg1 hc1)
      replace HS := Lib.hid (HS.out.step hg1 hw1 hc1)
      clear hg1 hw1 hc1
      refine hK.out _ _ _ (fun x hx => hx) HS.out.cells ?_
      clear hK K
      refine Tree.one rfl (fun K hK => ?_)
      go_simp
      refine (wu8_on (n := m) HS.out.wtr (by rw [HS.out.len]; omega) hm).mono ?_
      rintro e y ⟨rfl, g1, hg1, hw1, hc1⟩
      replace HY := Lib.hid (HY.out.step HS.out hg1 hc1)
      replace HS := Lib.hid (HS.out.step hg1 hw1 hc1)
      clear hg1 hw1 hc1
      refine hK.out _ _ _ (fun x hx => hx) HS.out.cells ?_
      clear hK K
      refine Tree.one rfl (fun K hK => ?_)
      go_simp
      refine (wbytes_one HS.out.wtr HY.out.cell HN.out HS.out.src HY.out.neW HY.out.neg (fun h => HS.out.srcW h) (fun h => HS.out.srcg h) (by rw [HS.out.len, HN.out]; omega)).mono ?_
      rintro e y ⟨rfl, g1, hg1, hw1, hc1⟩
      have HE := Lib.hid (HS.out.last hg1 hw1 hc1 HN.out)
      clear hg1 hw1 hc1 HY HS
      refine hK.out _ _ _ (fun x hx => hx) HE.out.cells ?_
      clear hK K
      refine Tree.one rfl (fun K hK => ?_)
      go_simp
      refine (wdone_any _ _ _ _ HE.out.wtr (by rw [HE.out.len]; omega)).mono ?_
      rintro e y ⟨X, hX, rfl, hrow, hb⟩
      rw [HE.out.len]
      have HZ := Lib.hid (HE.out.far hb)
      have HX := Lib.hid (And.intro hrow (Nat.le_trans HE.out.le hX))
      clear hb hrow hX HE
      refine hK.out _ _ _ (fun x hx => hx) HZ.out.1 ?_
      clear hK K
      (refine Tree.take (v := ?_) rfl (by rfl) ?_ ?_; rotate_left 1; (focus (intro x hx; go_simp <;> (first | with_reducible rfl | rw [if_pos (by omega)]))); simp only [Act.put, List.setIfInBounds_toArray, List.set_cons_zero, List.set_cons_succ])
      refine Tree.done ?_
      go_wp2
      go_ret
      exact ⟨X, Nat.le_of_succ_le HX.out.2, rfl, HX.out.1, HZ.out.2⟩
  · go_simp
    have HY := Lib.hid (HS.out.made)
    replace HS := Lib.hid (HS.out.alloc (.cells #[.slice A n cap] 32))
    refine hK.out _ _ _ (fun x hx => hx) HS.out.cells ?_
    clear hK K
    generalize World.alloc _ (.cells #[.slice A n cap] 32) = y at *
    refine Tree.one rfl (fun K hK => ?_)
    go_simp
    refine (wu8_on (n := a) HS.out.wtr (by rw [HS.out.len]; omega) ha).mono ?_
    rintro e y ⟨rfl, g1, hg1, hw1, hc1⟩
    replace HY := Lib.hid (HY.out.step HS.out hg1 hc1)
    replace HS := Lib.hid (HS.out.step hg1 hw1 hc1)
    clear hg1 hw1 hc1
    refine hK.out _ _ _ (fun x hx => hx) HS.out.cells ?_
    clear hK K
    refine Tree.one rfl (fun K hK => ?_)
    go_simp
    refine (wu8_on (n := k) HS.out.wtr (by rw [HS.out.len]; omega) hk).mono ?_
    rintro e y ⟨rfl, g1, hg1, hw1, hc1⟩
    replace HY := Lib.hid (HY.out.step HS.out hg1 hc1)
    replace HS := Lib.hid (HS.out.step hg1 hw1 hc1)
    clear hg1 hw1 hc1
    refine hK.out _ _ _ (fun x hx => hx) HS.out.cells ?_
    clear hK K
    refine Tree.one rfl (fun K hK => ?_)
    go_simp
    refine (wu8_on (n := s) HS.out.wtr (by rw [HS.out.len]; omega) hs).mono ?_
    rintro e y ⟨rfl, g1, hg1, hw1, hc1⟩
    replace HY := Lib.hid (HY.out.step HS.out hg1 hc1)
    replace HS := Lib.hid (HS.out.step hg1 hw1 hc1)
    clear hg1 hw1 hc1
    refine hK.out _ _ _ (fun x hx => hx) HS.out.cells ?_
    clear hK K
    refine Tree.one rfl (fun K hK => ?_)
    go_simp
    refine (wu8_on (n := t) HS.out.wtr (by rw [HS.out.len]; omega) ht).mono ?_
    rintro e y ⟨rfl, g1, hg1, hw1, hc1⟩
    replace HY := Lib.hid (HY.out.step HS.out hg1 hc1)
    replace HS := Lib.hid (HS.out.step hg1 hw1 hc1)
    clear hg1 hw1 hc1
    refine hK.out _ _ _ (fun x hx => hx) HS.out.cells ?_
    clear hK K
    refine Tree.one rfl (fun K hK => ?_)
    go_simp
    refine (wu8_on (n := m) HS.out.wtr (by rw [HS.out.len]; omega) hm).mono ?_
    rintro e y ⟨rfl, g1, hg1, hw1, hc1⟩
    replace HY := Lib.hid (HY.out.step HS.out hg1 hc1)
    replace HS := Lib.hid (HS.out.step hg1 hw1 hc1)
    clear hg1 hw1 hc1
    refine hK.out _ _ _ (fun x hx => hx) HS.out.cells ?_
    clear hK K
    refine Tree.one rfl (fun K hK => ?_)
    go_simp
    refine (wbytes_one HS.out.wtr HY.out.cell HN.out HS.out.src HY.out.neW HY.out.neg (fun h => HS.out.srcW h) (fun h => HS.out.srcg h) (by rw [HS.out.len, HN.out]; omega)).mono ?_
    rintro e y ⟨rfl, g1, hg1, hw1, hc1⟩
    have HE := Lib.hid (HS.out.last hg1 hw1 hc1 HN.out)
    clear hg1 hw1 hc1 HY HS
    refine hK.out _ _ _ (fun x hx => hx) HE.out.cells ?_
    clear hK K
    refine Tree.one rfl (fun K hK => ?_)
    go_simp
    refine (wdone_any _ _ _ _ HE.out.wtr (by rw [HE.out.len]; omega)).mono ?_
    rintro e y ⟨X, hX, rfl, hrow, hb⟩
    rw [HE.out.len]
    have HZ := Lib.hid (HE.out.far hb)
    have HX := Lib.hid (And.intro hrow (Nat.le_trans HE.out.le hX))
    clear hb hrow hX HE
    refine hK.out _ _ _ (fun x hx => hx) HZ.out.1 ?_
    clear hK K
    (refine Tree.take (v := ?_) rfl (by rfl) ?_ ?_; rotate_left 1; (focus (intro x hx; go_simp <;> (first | with_reducible rfl | rw [if_pos (by omega)]))); simp only [Act.put, List.setIfInBounds_toArray, List.set_cons_zero, List.set_cons_succ])
    refine Tree.done ?_
    go_wp2
    go_ret
    exact ⟨X, Nat.le_of_succ_le HX.out.2, rfl, HX.out.1, HZ.out.2⟩

end Go.Proofs.YtalolefggihloaaDoor
