/-
  lamplightlaw02.CrcNone answers true, and turns nothing that was there: the walk.
-/
import Derived.Test.YtcboklkpfjefmaaDoorCrcPlaces
import Derived.Test.YtcboklkpfjefmaaDoorOwn
import Derived.Test.YtcboklkpfjefmaaDoorTrees
import Derived.Deep.DeepCutAuto
import Derived.Deep.CutBlock
namespace Go.Proofs.YtcboklkpfjefmaaDoor
set_option linter.unusedVariables false
set_option linter.unusedSimpArgs false
open Go.RowKit

/-- Slice values, and the bytes that each holds. -/
structure Vals (w : World) (vs : List Value) (ps : List (List UInt8)) : Prop where
  len : vs.length = ps.length
  get : ∀ (k : Nat) (v : Value) (l : List UInt8), vs[k]? = some v → ps[k]? = some l → ∃ g A c, v = .slice A l.length c ∧ Holds w g A (bcs l)
theorem Vals.append {w : World} {vs us : List Value} {ps qs : List (List UInt8)} (h : Vals w vs ps) (h' : Vals w us qs) : Vals w (vs ++ us) (ps ++ qs) := by
  refine ⟨by simp [h.len, h'.len], fun k v l hv hl => ?_⟩
  rcases Nat.lt_or_ge k vs.length with hk | hk
  · rw [List.getElem?_append_left hk] at hv
    rw [List.getElem?_append_left (by rw [← h.len]; exact hk)] at hl
    exact h.get k v l hv hl
  · rw [List.getElem?_append_right hk] at hv
    rw [List.getElem?_append_right (by rw [← h.len]; exact hk), ← h.len] at hl
    exact h'.get _ v l hv hl
theorem Vals.one {w : World} {g : Nat} {A : Option Addr} {n c : Nat} {l : List UInt8} (h : Holds w g A (bcs l)) (hn : l.length = n) : Vals w [.slice A n c] [l] := by
  subst hn
  refine ⟨rfl, fun k v m hv hm => ?_⟩
  match k with
  | 0 =>
    simp at hv hm
    subst hv hm
    exact ⟨g, A, c, rfl, h⟩
  | k + 1 => simp at hv
/-- Slices without bytes. -/
def Emp (vs : List Value) (n : Nat) : Prop := vs.length = n ∧ ∀ v ∈ vs, ∃ A c, v = .slice A 0 c
theorem Emp.vals {vs : List Value} {n : Nat} (h : Emp vs n) (w : World) : Vals w vs (List.replicate n []) := by
  refine ⟨by simp [h.1], fun k v l hv hl => ?_⟩
  have hl' : l = [] := by
    have := List.mem_of_getElem? hl
    exact (List.mem_replicate.1 this).2
  subst hl'
  obtain ⟨A, c, rfl⟩ := h.2 v (List.mem_of_getElem? hv)
  exact ⟨0, A, c, rfl, Holds.nil _ _ _⟩
theorem Emp.one {vs : List Value} (h : Emp vs 0) : vs = [] := List.eq_nil_of_length_eq_zero h.1
theorem Emp.snoc {vs : List Value} {n : Nat} (h : Emp vs n) (A : Option Addr) (c : Nat) : Emp (vs ++ [.slice A 0 c]) (n + 1) := by
  refine ⟨by simp [h.1], fun v hv => ?_⟩
  rcases List.mem_append.1 hv with hv | hv
  · exact h.2 v hv
  · simp at hv
    exact ⟨A, c, hv⟩
theorem Emp.cell {vs : List Value} {n : Nat} (h : Emp vs n) : ∀ u ∈ vs, u.oneCell' = true := by
  intro u hu
  obtain ⟨A, c, rfl⟩ := h.2 u hu
  rfl

/-- A slice of slices of one's own, in a block from B on. -/
structure OwnO (w : World) (B : Nat) (V : Option Addr) (n c : Nat) (vs : List Value) : Prop where
  own : w.ownsRow 0 23 1 (.slice V n c) n vs
  from_ : ∀ h, (Value.slice V n c).ownBlock = some h → B ≤ h
theorem OwnO.keep {w w' : World} {B C : Nat} {V : Option Addr} {n c : Nat} {vs : List Value} (h : OwnO w B V n c vs) (hb : Below C w w') (hC : ∀ g, (Value.slice V n c).ownBlock = some g → g < C) : OwnO w' B V n c vs := by
  refine ⟨⟨h.own.1, ?_⟩, h.from_⟩
  rcases h.own.2 with hn | ⟨g, cap, cur, hv, hbb, hh, r⟩
  · exact .inl hn
  · exact .inr ⟨g, cap, cur, hv, hbb, (hb.block g (hC g (by rw [hv]; rfl))).trans hh, r⟩
theorem OwnO.alloc {w : World} {B : Nat} {V : Option Addr} {n c : Nat} {vs : List Value} (h : OwnO w B V n c vs) (o : Obj) : OwnO (w.alloc o) B V n c vs := ⟨h.own.alloc o, h.from_⟩
theorem OwnO.lt {w : World} {B : Nat} {V : Option Addr} {n c : Nat} {vs : List Value} (h : OwnO w B V n c vs) : ∀ g, (Value.slice V n c).ownBlock = some g → g < w.heap.size := fun g hg => (h.own.lt g hg).2
theorem OwnO.holds {w : World} {B : Nat} {V : Option Addr} {n c : Nat} {vs : List Value} (h : OwnO w B V n c vs) (hn : vs.length = n) : ∃ g, Holds w g V vs := by
  cases V with
  | none =>
    have hl0 : n = 0 := by
      rcases h.own.2 with ⟨_, h0⟩ | ⟨g', _, _, hx, _⟩
      · exact h0
      · cases hx
    have : vs = [] := List.eq_nil_of_length_eq_zero (by omega)
    subst this
    exact ⟨0, Holds.nil _ _ _⟩
  | some ad => exact ⟨ad.block, own_holds h.own (by intro h hh; simp [Value.ownBlock] at hh; exact hh.symm)⟩
theorem OwnO.parts {w : World} {B : Nat} {V : Option Addr} {n c : Nat} {vs : List Value} {ps : List (List UInt8)} (h : OwnO w B V n c vs) (hn : vs.length = n) (hv : Vals w vs ps) : PartsAt w V ps := by
  intro k l hk
  have hkl : k < ps.length := by
    rcases Nat.lt_or_ge k ps.length with h | h
    · exact h
    · rw [List.getElem?_eq_none h] at hk; cases hk
  have hkv : k < vs.length := by rw [hv.len]; exact hkl
  obtain ⟨g, A, c', hform, hh⟩ := hv.get k vs[k] l (List.getElem?_eq_getElem hkv) hk
  obtain ⟨gV, hV⟩ := h.holds hn
  obtain ⟨_, o, hVe, hcells⟩ := hV (by omega)
  exact ⟨gV, o, g, A, c', hVe, hcells k _ (by rw [List.getElem?_eq_getElem hkv, hform]), hh⟩
/-- Behind an append. -/
theorem OwnO.grown {w w' : World} {B : Nat} {V V' : Option Addr} {n c n' c' : Nat} {vs us : List Value} (h : OwnO w B V n c vs) (hB : B ≤ w.heap.size) (hg : w.grownBy w' (Value.slice V n c).ownBlock) (ho : w'.ownsRow 0 23 1 (.slice V' n' c') n' us)
    (hat : (Value.slice V' n' c').ownBlock = (Value.slice V n c).ownBlock ∨ (Value.slice V' n' c').ownBlock = some w.heap.size) : OwnO w' B V' n' c' us := by
  refine ⟨ho, fun g hgg => ?_⟩
  rcases hat with h1 | h1
  · exact h.from_ g (by rw [← h1]; exact hgg)
  · rw [h1] at hgg
    injection hgg with hgg
    omega

theorem OwnO.step {w w' : World} {B : Nat} {V : Option Addr} {n c : Nat} {vs : List Value} (h : OwnO w B V n c vs) (hb : Below w.heap.size w w') : OwnO w' B V n c vs := h.keep hb h.lt

theorem none_flat (n : Nat) : (List.replicate n ([] : List UInt8)).flatten = [] := by
  induction n with
  | zero => rfl
  | succ n ih => rw [List.replicate_succ, List.flatten_cons, ih]; rfl

/-- The parts that are summed up. -/
def psOf (l : List UInt8) (a k : Nat) : List (List UInt8) := List.replicate k [] ++ [l.take a] ++ List.replicate k [] ++ [l.drop a] ++ List.replicate k []
theorem psOf_flat (l : List UInt8) (a k : Nat) : (psOf l a k).flatten = l := by simp [psOf]
theorem psOf_length (l : List UInt8) (a k : Nat) : (psOf l a k).length = k + 1 + k + 1 + k := by simp [psOf]; omega
theorem psOf_le (l : List UInt8) (a k : Nat) : ∀ p ∈ psOf l a k, p.length ≤ l.length := by
  intro p hp
  have h : p = [] ∨ p = l.take a ∨ p = l.drop a := by
    simp only [psOf, List.mem_append, List.mem_replicate, List.mem_singleton] at hp
    rcases hp with (((hp | hp) | hp) | hp) | hp
    · exact .inl hp.2
    · exact .inr (.inl hp)
    · exact .inl hp.2
    · exact .inr (.inr hp)
    · exact .inl hp.2
  rcases h with rfl | rfl | rfl
  · simp
  · rw [List.length_take]; omega
  · rw [List.length_drop]; omega

set_option maxHeartbeats 4000000 in
set_option maxRecDepth 100000 in
theorem none_walk (g : Nat) (A : Option Addr) (l0 : List UInt8) (len cap : Nat) (x z : Int) (w : World) (ht : Tab w) (h : Holds w g A (bcs l0)) (hlen : l0.length = len) (hcap : len ≤ cap) (hmx : cap ≤ 9223372036854775807) :
    Calls Tryd.prog 11 #[.slice A len cap, .int .i64 x, .int .i64 z] w fun e w' => e = .returned (.bool true) ∧ Below w.heap.size w w' := by
  obtain ⟨m, hm3, hml, hmin⟩ := min_of len 300 300 rfl
  obtain ⟨a, ham, hat, hat'⟩ := place_of x m
  obtain ⟨q, hq, hqt, hqt'⟩ := place_at z 11 (by omega)
  rw [show ((11 : Nat) : Int) = 11 from rfl] at hqt hqt'
  obtain ⟨j0, hj, hy0, hy1, hy2⟩ := info_parts info_bytes
  have HH := Lib.hid h
  have HL := Lib.hid hlen
  have HTB := Lib.hid ht
  clear h hlen ht
  go_enter Tryd.func11, Tryd.ntmps11
  go_wp2_with fail
  refine (shown_any w HTB.out).mono ?_
  rintro e x1 ⟨rfl, hb1⟩
  have H1 := Lib.hid (St.begin HTB.out HH.out hb1 m)
  have HLL : Hid ((l0.take m).length = m) := by show _ = _; rw [List.length_take, HL.out]; omega
  generalize l0.take m = l at *
  clear HH HL HTB hb1
  have hmc : m ≤ cap := by omega
  have hac : a ≤ cap := by omega
  go_wp2
  go_loopw [8, 9] (fun v i wr => ∃ (k : Nat) (V : Option Addr) (c : Nat) (vs : List Value), k ≤ q ∧ i = .int .i64 k ∧ v = .slice V k c ∧ Hid (OwnO wr x1.heap.size V k c vs) ∧ Hid (Emp vs k) ∧ Hid (Below x1.heap.size x1 wr)) (fun _ i _ => q - (intOf i).toNat)
  case atStart => exact ⟨0, none, 0, [], Nat.zero_le _, rfl, rfl, ⟨World.ownsRow_nil _ _ _ _, by simp [Value.ownBlock]⟩, ⟨rfl, by simp⟩, Below.refl _ _⟩
  case round =>
    obtain ⟨k, V, c, vs, hk, rfl, rfl, HO, HE, HS⟩ := hrel
    by_cases hlt : k < q
    · have hlt' : (k : Int) < (q : Int) := by omega
      have HO2 := Lib.hid ((HO.out.alloc (.cells #[] 5)).alloc (.cells #[.slice (some ⟨wr.heap.size, 0, none⟩) 0 0] 23))
      have hz := HS.out.size
      have HZ : Hid (x1.heap.size ≤ ((wr.alloc (.cells #[] 5)).alloc (.cells #[.slice (some ⟨wr.heap.size, 0, none⟩) 0 0] 23)).heap.size) := by show _ ≤ _; simp; omega
      have HS2 : Hid (Below x1.heap.size x1 ((wr.alloc (.cells #[] 5)).alloc (.cells #[.slice (some ⟨wr.heap.size, 0, none⟩) 0 0] 23))) := (HS.out.alloc hz _).alloc (by simp; omega) _
      have HR2 : Hid (Holds ((wr.alloc (.cells #[] 5)).alloc (.cells #[.slice (some ⟨wr.heap.size, 0, none⟩) 0 0] 23)) (wr.heap.size + 1) (some ⟨wr.heap.size + 1, 0, none⟩) [.slice (some ⟨wr.heap.size, 0, none⟩) 0 0]) := by
        have := Holds.of_row (cs := [.slice (some ⟨wr.heap.size, 0, none⟩) 0 0]) (fz := (0, 0)) (heap_alloc_new (wr.alloc (.cells #[] 5)) (.cells #[.slice (some ⟨wr.heap.size, 0, none⟩) 0 0] 23))
        rwa [show (wr.alloc (.cells #[] 5)).heap.size = wr.heap.size + 1 by simp] at this
      clear HO HS hz
      go_wp2_with (first
        | (at_builtin; refine wpList_append_holds rfl (.tmp 31) (.tmp 33) 22 rfl 23 j0 (.slice none 0 0) 24 Tryd.underlying22 hj hy0 hy1 hy2 rfl (.slice V k c) k vs rfl HO2.out.own (wr.heap.size + 1) (some ⟨wr.heap.size + 1, 0, none⟩) 1 1 [.slice (some ⟨wr.heap.size, 0, none⟩) 0 0] rfl rfl HR2.out (by simp [Value.oneCell']) (by unfold maxLen; omega) (by omega) ?_; intro V5 c5 w5 hown5 hgrow5 hat5))
      go_roundw
      case rel => exact ⟨k + 1, V5, c5, vs ++ [.slice (some ⟨wr.heap.size, 0, none⟩) 0 0], by omega, by go_num, rfl, HO2.out.grown HZ.out hgrow5 hown5 hat5, Lib.hid (HE.out.snoc _ _), HS2.out.grown hgrow5 HZ.out (fun g hg => HO2.out.from_ g hg)⟩
      case measure => simp [intOf]; omega
    · have hkq : k = q := by omega
      subst hkq
      have H2 := Lib.hid (H1.out.step HS.out)
      have HO1 := HO
      have HB2 : Hid (Below wr.heap.size wr wr) := Below.refl _ _
      clear H1 HS HO
      obtain ⟨Bs, hBs⟩ : ∃ Bs, Bs = wr.heap.size := ⟨_, rfl⟩
      have HN : Hid (∀ y, Below Bs wr y → ∃ gN, Holds y gN V vs) := by
        intro y hy
        exact (HO1.out.keep hy (fun g hg => by rw [hBs]; exact HO1.out.lt g hg)).holds HE.out.1
      have HST : Hid (∀ y, Below Bs wr y → St w.heap.size w g A l y) := by
        intro y hy
        rw [hBs] at hy
        exact H2.out.step hy
      have HBz : Hid (Bs ≤ wr.heap.size) := by show _ ≤ _; rw [hBs]; exact Nat.le_refl _
      have HBz2 : Hid (wr.heap.size ≤ Bs) := by show _ ≤ _; rw [hBs]; exact Nat.le_refl _
      clear HB2 hBs
      have hcel := HE.out.cell
      have HCEL := Lib.hid hcel
      clear hcel
      obtain ⟨b1, hb1⟩ : ∃ b1, b1 = Value.slice A a cap := ⟨_, rfl⟩
      go_upto_region 10 with (fail)
      go_cut [10] (fun v y => ∃ V' c', v = .slice V' (k + 1) c' ∧ Hid (OwnO y Bs V' (k + 1) c' (vs ++ [.slice A a cap])) ∧ Hid (Below Bs wr y))
      case first =>
        refine region_tree (.take 1 (.take 3 (.take 4 (.take 5 (.two 0 (.two 2 (.one 6 (.one 7 (.take 8 .done))) 6 (.one 2 (.one 7 (.take 8 .done)))) 6 (.one 0 (.one 2 (.one 7 (.take 8 .done))))))))) (fun _ => True)
          (by kernel_rfl) (by kernel_rfl) (by kernel_rfl) (by kernel_rfl) trivial ?_
        have hB0 : Below Bs wr wr.drew := ((Ch.refl [] wr).drew).belowAt (by simp) HBz.out
        have hBz0 : Bs ≤ wr.drew.heap.size := HBz.out
        generalize wr.drew = y at *
        iterate 4 (refine Tree.take (v := ?_) rfl (by rfl) ?_ ?_; rotate_left 1; (focus (intro x hx; go_simp <;> (first | with_reducible rfl | rw [if_pos (by omega)]))); simp only [Act.put, List.setIfInBounds_toArray, List.set_cons_zero, List.set_cons_succ])
        refine Tree.two rfl rfl (fun K hK => ?_) (fun K hK => ?_)
        · go_simp
          refine hK.out (fun _ => True) _ _ (fun _ _ => trivial) trivial ?_
          clear hK K
          have hO1 : OwnO (y.alloc (.cells #[] 23)) Bs (some ⟨y.heap.size, 0, none⟩) 0 0 [] := ⟨World.ownsRow_made y #[] 0 (Nat.zero_le _) (Nat.zero_le _) rfl, by intro h hh; simp [Value.ownBlock] at hh; omega⟩
          have hB1 := hB0.alloc hBz0 (.cells #[] 23)
          have hZ1 : Bs ≤ (y.alloc (.cells #[] 23)).heap.size := by simp; omega
          have HS1 : Hid ((y.alloc (.cells #[] 23)).heap.size = y.heap.size + 1) := by show _ = _; simp
          generalize y.alloc (.cells #[] 23) = y1 at *
          refine Tree.two rfl rfl (fun K hK => ?_) (fun K hK => ?_)
          · rw [if_pos (by rfl)]
            obtain ⟨gN, hgN⟩ := HN.out y1 hB1
            refine wp_append_holds (.tmp 35) (.tmp 36) 22 rfl 23 j0 (.slice none 0 0) 24 Tryd.underlying22 hj hy0 hy1 hy2 rfl (.slice (some ⟨y.heap.size, 0, none⟩) 0 0) (0) ([]) rfl hO1.own gN V k c vs rfl HE.out.1 hgN HCEL.out (by unfold maxLen; omega) (by omega) ?_
            intro V2 c2 y2 hown2 hgrow2 hat2
            simp only [Nat.zero_add, List.nil_append] at hown2 hat2 ⊢
            have hO2 := hO1.grown hZ1 hgrow2 hown2 hat2
            have hB2 := hB1.grown hgrow2 hZ1 (fun g hg => hO1.from_ g hg)
            have hZ2 : Bs ≤ y2.heap.size := Nat.le_trans hZ1 hgrow2.size
            refine hK.out (fun _ => True) _ _ (fun _ _ => trivial) trivial ?_
            clear hK K
            refine Tree.one rfl (fun K hK => ?_)
            go_simp
            refine hK.out (fun _ => True) _ _ (fun _ _ => trivial) trivial ?_
            clear hK K
            have hR3 : Holds (y2.alloc (.cells #[.slice A a cap] 23)) y2.heap.size (some ⟨y2.heap.size, 0, none⟩) [.slice A a cap] := Holds.of_row (cs := [.slice A a cap]) (fz := (0, 0)) (heap_alloc_new y2 _)
            have hO3 := hO2.alloc (.cells #[.slice A a cap] 23)
            have hB3 := hB2.alloc hZ2 (.cells #[.slice A a cap] 23)
            have hZ3 : Bs ≤ (y2.alloc (.cells #[.slice A a cap] 23)).heap.size := by simp; omega
            have HS3 : Hid ((y2.alloc (.cells #[.slice A a cap] 23)).heap.size = y2.heap.size + 1) := by show _ = _; simp
            generalize y2.alloc (.cells #[.slice A a cap] 23) = y3 at *
            refine Tree.one rfl (fun K hK => ?_)
            rw [if_pos (by rfl)]
            refine wp_append_holds (.tmp 37) (.tmp 41) 22 rfl 23 j0 (.slice none 0 0) 24 Tryd.underlying22 hj hy0 hy1 hy2 rfl (.slice V2 (k) c2) (k) (vs) rfl hO3.own (y2.heap.size) (some ⟨y2.heap.size, 0, none⟩) 1 1 [.slice A a cap] rfl rfl hR3 (by simp [Value.oneCell']) (by unfold maxLen; omega) (by omega) ?_
            intro V4 c4 y4 hown4 hgrow4 hat4
            have hO4 := hO3.grown hZ3 hgrow4 hown4 hat4
            have hB4 := hB3.grown hgrow4 hZ3 (fun g hg => hO3.from_ g hg)
            refine hK.out (fun _ => True) _ _ (fun _ _ => trivial) trivial ?_
            clear hK K
            iterate 1 (refine Tree.take (v := ?_) rfl (by rfl) ?_ ?_; rotate_left 1; (focus (intro x hx; go_simp <;> (first | with_reducible rfl | rw [if_pos (by omega)]))); simp only [Act.put, List.setIfInBounds_toArray, List.set_cons_zero, List.set_cons_succ])
            refine Tree.done ?_
            go_wp2_with fail
            go_meet
            case rel => exact ⟨V4, c4, rfl, hO4, hB4⟩
          · go_simp
            refine hK.out (fun _ => True) _ _ (fun _ _ => trivial) trivial ?_
            clear hK K
            have hR2 : Holds (y1.alloc (.cells #[.slice A a cap] 23)) y1.heap.size (some ⟨y1.heap.size, 0, none⟩) [.slice A a cap] := Holds.of_row (cs := [.slice A a cap]) (fz := (0, 0)) (heap_alloc_new y1 _)
            have hO2 := hO1.alloc (.cells #[.slice A a cap] 23)
            have hB2 := hB1.alloc hZ1 (.cells #[.slice A a cap] 23)
            have hZ2 : Bs ≤ (y1.alloc (.cells #[.slice A a cap] 23)).heap.size := by simp; omega
            have HS2 : Hid ((y1.alloc (.cells #[.slice A a cap] 23)).heap.size = y1.heap.size + 1) := by show _ = _; simp
            generalize y1.alloc (.cells #[.slice A a cap] 23) = y2 at *
            refine Tree.one rfl (fun K hK => ?_)
            rw [if_pos (by rfl)]
            obtain ⟨gN, hgN⟩ := HN.out y2 hB2
            refine wp_append_holds (.tmp 35) (.tmp 36) 22 rfl 23 j0 (.slice none 0 0) 24 Tryd.underlying22 hj hy0 hy1 hy2 rfl (.slice (some ⟨y.heap.size, 0, none⟩) 0 0) (0) ([]) rfl hO2.own gN V k c vs rfl HE.out.1 hgN HCEL.out (by unfold maxLen; omega) (by omega) ?_
            intro V3 c3 y3 hown3 hgrow3 hat3
            simp only [Nat.zero_add, List.nil_append] at hown3 hat3 ⊢
            have hO3 := hO2.grown hZ2 hgrow3 hown3 hat3
            have hB3 := hB2.grown hgrow3 hZ2 (fun g hg => hO2.from_ g hg)
            have hZ3 : Bs ≤ y3.heap.size := Nat.le_trans hZ2 hgrow3.size
            have hR3 := hR2.keep ((Ch.refl [y.heap.size] y2).grown hgrow3 (fun g hg _ => by simp [Value.ownBlock] at hg; simp [hg])) (fun _ => by simp; have := HS1.out; have := HS2.out; omega)
            refine hK.out (fun _ => True) _ _ (fun _ _ => trivial) trivial ?_
            clear hK K
            refine Tree.one rfl (fun K hK => ?_)
            rw [if_pos (by rfl)]
            refine wp_append_holds (.tmp 37) (.tmp 41) 22 rfl 23 j0 (.slice none 0 0) 24 Tryd.underlying22 hj hy0 hy1 hy2 rfl (.slice V3 (k) c3) (k) (vs) rfl hO3.own (y1.heap.size) (some ⟨y1.heap.size, 0, none⟩) 1 1 [.slice A a cap] rfl rfl hR3 (by simp [Value.oneCell']) (by unfold maxLen; omega) (by omega) ?_
            intro V4 c4 y4 hown4 hgrow4 hat4
            have hO4 := hO3.grown hZ3 hgrow4 hown4 hat4
            have hB4 := hB3.grown hgrow4 hZ3 (fun g hg => hO3.from_ g hg)
            refine hK.out (fun _ => True) _ _ (fun _ _ => trivial) trivial ?_
            clear hK K
            iterate 1 (refine Tree.take (v := ?_) rfl (by rfl) ?_ ?_; rotate_left 1; (focus (intro x hx; go_simp <;> (first | with_reducible rfl | rw [if_pos (by omega)]))); simp only [Act.put, List.setIfInBounds_toArray, List.set_cons_zero, List.set_cons_succ])
            refine Tree.done ?_
            go_wp2_with fail
            go_meet
            case rel => exact ⟨V4, c4, rfl, hO4, hB4⟩
        · go_simp
          refine hK.out (fun _ => True) _ _ (fun _ _ => trivial) trivial ?_
          clear hK K
          have hR1 : Holds (y.alloc (.cells #[.slice A a cap] 23)) y.heap.size (some ⟨y.heap.size, 0, none⟩) [.slice A a cap] := Holds.of_row (cs := [.slice A a cap]) (fz := (0, 0)) (heap_alloc_new y _)
          have hB1 := hB0.alloc hBz0 (.cells #[.slice A a cap] 23)
          have hZ1 : Bs ≤ (y.alloc (.cells #[.slice A a cap] 23)).heap.size := by simp; omega
          have HS1 : Hid ((y.alloc (.cells #[.slice A a cap] 23)).heap.size = y.heap.size + 1) := by show _ = _; simp
          generalize y.alloc (.cells #[.slice A a cap] 23) = y1 at *
          refine Tree.one rfl (fun K hK => ?_)
          go_simp
          refine hK.out (fun _ => True) _ _ (fun _ _ => trivial) trivial ?_
          clear hK K
          have hO2 : OwnO (y1.alloc (.cells #[] 23)) Bs (some ⟨y1.heap.size, 0, none⟩) 0 0 [] := ⟨World.ownsRow_made y1 #[] 0 (Nat.zero_le _) (Nat.zero_le _) rfl, by intro h hh; simp [Value.ownBlock] at hh; omega⟩
          have hR2 := hR1.keep ((Ch.refl [] y1).alloc (.cells #[] 23)) (by simp)
          have hB2 := hB1.alloc hZ1 (.cells #[] 23)
          have hZ2 : Bs ≤ (y1.alloc (.cells #[] 23)).heap.size := by simp; omega
          have HS2 : Hid ((y1.alloc (.cells #[] 23)).heap.size = y1.heap.size + 1) := by show _ = _; simp
          generalize y1.alloc (.cells #[] 23) = y2 at *
          refine Tree.one rfl (fun K hK => ?_)
          rw [if_pos (by rfl)]
          obtain ⟨gN, hgN⟩ := HN.out y2 hB2
          refine wp_append_holds (.tmp 35) (.tmp 36) 22 rfl 23 j0 (.slice none 0 0) 24 Tryd.underlying22 hj hy0 hy1 hy2 rfl (.slice (some ⟨y1.heap.size, 0, none⟩) 0 0) (0) ([]) rfl hO2.own gN V k c vs rfl HE.out.1 hgN HCEL.out (by unfold maxLen; omega) (by omega) ?_
          intro V3 c3 y3 hown3 hgrow3 hat3
          simp only [Nat.zero_add, List.nil_append] at hown3 hat3 ⊢
          have hO3 := hO2.grown hZ2 hgrow3 hown3 hat3
          have hB3 := hB2.grown hgrow3 hZ2 (fun g hg => hO2.from_ g hg)
          have hZ3 : Bs ≤ y3.heap.size := Nat.le_trans hZ2 hgrow3.size
          have hR3 := hR2.keep ((Ch.refl [y1.heap.size] y2).grown hgrow3 (fun g hg _ => by simp [Value.ownBlock] at hg; simp [hg])) (fun _ => by simp; have := HS1.out; have := HS2.out; omega)
          refine hK.out (fun _ => True) _ _ (fun _ _ => trivial) trivial ?_
          clear hK K
          refine Tree.one rfl (fun K hK => ?_)
          rw [if_pos (by rfl)]
          refine wp_append_holds (.tmp 37) (.tmp 41) 22 rfl 23 j0 (.slice none 0 0) 24 Tryd.underlying22 hj hy0 hy1 hy2 rfl (.slice V3 (k) c3) (k) (vs) rfl hO3.own (y.heap.size) (some ⟨y.heap.size, 0, none⟩) 1 1 [.slice A a cap] rfl rfl hR3 (by simp [Value.oneCell']) (by unfold maxLen; omega) (by omega) ?_
          intro V4 c4 y4 hown4 hgrow4 hat4
          have hO4 := hO3.grown hZ3 hgrow4 hown4 hat4
          have hB4 := hB3.grown hgrow4 hZ3 (fun g hg => hO3.from_ g hg)
          refine hK.out (fun _ => True) _ _ (fun _ _ => trivial) trivial ?_
          clear hK K
          iterate 1 (refine Tree.take (v := ?_) rfl (by rfl) ?_ ?_; rotate_left 1; (focus (intro x hx; go_simp <;> (first | with_reducible rfl | rw [if_pos (by omega)]))); simp only [Act.put, List.setIfInBounds_toArray, List.set_cons_zero, List.set_cons_succ])
          refine Tree.done ?_
          go_wp2_with fail
          go_meet
          case rel => exact ⟨V4, c4, rfl, hO4, hB4⟩
      case rest =>
        obtain ⟨V1, c1, rfl, HO10, HB10⟩ := hcut
        obtain ⟨Bd, hBd⟩ : ∃ B, (if cap = a then A else A.map (·.add a)) = B := ⟨_, rfl⟩
        have HBd := Lib.hid hBd
        go_upto_region 11 with (fail)
        go_cut [10] (fun v y => ∃ V' c', v = .slice V' (k + 1 + k + 1) c' ∧ Hid (OwnO y Bs V' (k + 1 + k + 1) c' (vs ++ [.slice A a cap] ++ vs ++ [.slice Bd (m - a) (cap - a)])) ∧ Hid (Below Bs wr y))
        case first =>
          refine region_tree (.take 0 (.take 1 (.take 3 (.take 4 (.take 5 (.two 2 (.one 6 (.one 7 (.take 8 .done))) 6 (.one 2 (.one 7 (.take 8 .done))))))))) (fun _ => True)
            (by kernel_rfl) (by kernel_rfl) (by kernel_rfl) (by kernel_rfl) trivial ?_
          have hB0 : Below Bs wr wc.drew := HB10.out.drew
          have hBz0 : Bs ≤ wc.drew.heap.size := Nat.le_trans HBz.out HB10.out.size
          have hOi : OwnO wc.drew Bs V1 (k + 1) c1 (vs ++ [.slice A a cap]) := ⟨HO10.out.own, HO10.out.from_⟩
          have hOlt := hOi.lt
          generalize wc.drew = y at *
          iterate 5 (refine Tree.take (v := ?_) rfl (by rfl) ?_ ?_; rotate_left 1; (focus (intro x hx; go_simp <;> (first | with_reducible rfl | rw [if_pos (by omega)]))); simp only [Act.put, List.setIfInBounds_toArray, List.set_cons_zero, List.set_cons_succ])
          refine Tree.two rfl rfl (fun K hK => ?_) (fun K hK => ?_)
          · rw [if_pos (by rfl)]
            obtain ⟨gN, hgN⟩ := HN.out y hB0
            refine wp_append_holds (.tmp 43) (.tmp 44) 22 rfl 23 j0 (.slice none 0 0) 24 Tryd.underlying22 hj hy0 hy1 hy2 rfl (.slice V1 (k + 1) c1) (k + 1) (vs ++ [.slice A a cap]) rfl hOi.own gN V k c vs rfl HE.out.1 hgN HCEL.out (by unfold maxLen; omega) (by omega) ?_
            intro V1 c1 y1 hown1 hgrow1 hat1
            have hO1 := hOi.grown hBz0 hgrow1 hown1 hat1
            have hB1 := hB0.grown hgrow1 hBz0 (fun g hg => hOi.from_ g hg)
            have hZ1 : Bs ≤ y1.heap.size := Nat.le_trans hBz0 hgrow1.size
            refine hK.out (fun _ => True) _ _ (fun _ _ => trivial) trivial ?_
            clear hK K
            refine Tree.one rfl (fun K hK => ?_)
            go_simp
            refine hK.out (fun _ => True) _ _ (fun _ _ => trivial) trivial ?_
            clear hK K
            have hR2 : Holds (y1.alloc (.cells #[.slice Bd (m - a) (cap - a)] 23)) y1.heap.size (some ⟨y1.heap.size, 0, none⟩) [.slice Bd (m - a) (cap - a)] := Holds.of_row (cs := [.slice Bd (m - a) (cap - a)]) (fz := (0, 0)) (heap_alloc_new y1 _)
            have hO2 := hO1.alloc (.cells #[.slice Bd (m - a) (cap - a)] 23)
            have hB2 := hB1.alloc hZ1 (.cells #[.slice Bd (m - a) (cap - a)] 23)
            have hZ2 : Bs ≤ (y1.alloc (.cells #[.slice Bd (m - a) (cap - a)] 23)).heap.size := by simp; omega
            have HS2 : Hid ((y1.alloc (.cells #[.slice Bd (m - a) (cap - a)] 23)).heap.size = y1.heap.size + 1) := by show _ = _; simp
            generalize y1.alloc (.cells #[.slice Bd (m - a) (cap - a)] 23) = y2 at *
            refine Tree.one rfl (fun K hK => ?_)
            rw [if_pos (by rfl)]
            refine wp_append_holds (.tmp 45) (.tmp 49) 22 rfl 23 j0 (.slice none 0 0) 24 Tryd.underlying22 hj hy0 hy1 hy2 rfl (.slice V1 (k + 1 + k) c1) (k + 1 + k) (vs ++ [.slice A a cap] ++ vs) rfl hO2.own (y1.heap.size) (some ⟨y1.heap.size, 0, none⟩) 1 1 [.slice Bd (m - a) (cap - a)] rfl rfl hR2 (by simp [Value.oneCell']) (by unfold maxLen; omega) (by omega) ?_
            intro V3 c3 y3 hown3 hgrow3 hat3
            have hO3 := hO2.grown hZ2 hgrow3 hown3 hat3
            have hB3 := hB2.grown hgrow3 hZ2 (fun g hg => hO2.from_ g hg)
            refine hK.out (fun _ => True) _ _ (fun _ _ => trivial) trivial ?_
            clear hK K
            iterate 1 (refine Tree.take (v := ?_) rfl (by rfl) ?_ ?_; rotate_left 1; (focus (intro x hx; go_simp <;> (first | with_reducible rfl | rw [if_pos (by omega)]))); simp only [Act.put, List.setIfInBounds_toArray, List.set_cons_zero, List.set_cons_succ])
            refine Tree.done ?_
            go_wp2_with fail
            go_meet
            case rel => exact ⟨V3, c3, rfl, hO3, hB3⟩
          · go_simp
            refine hK.out (fun _ => True) _ _ (fun _ _ => trivial) trivial ?_
            clear hK K
            have hR1 : Holds (y.alloc (.cells #[.slice Bd (m - a) (cap - a)] 23)) y.heap.size (some ⟨y.heap.size, 0, none⟩) [.slice Bd (m - a) (cap - a)] := Holds.of_row (cs := [.slice Bd (m - a) (cap - a)]) (fz := (0, 0)) (heap_alloc_new y _)
            have hO1 := hOi.alloc (.cells #[.slice Bd (m - a) (cap - a)] 23)
            have hB1 := hB0.alloc hBz0 (.cells #[.slice Bd (m - a) (cap - a)] 23)
            have hZ1 : Bs ≤ (y.alloc (.cells #[.slice Bd (m - a) (cap - a)] 23)).heap.size := by simp; omega
            have HS1 : Hid ((y.alloc (.cells #[.slice Bd (m - a) (cap - a)] 23)).heap.size = y.heap.size + 1) := by show _ = _; simp
            generalize y.alloc (.cells #[.slice Bd (m - a) (cap - a)] 23) = y1 at *
            refine Tree.one rfl (fun K hK => ?_)
            rw [if_pos (by rfl)]
            obtain ⟨gN, hgN⟩ := HN.out y1 hB1
            refine wp_append_holds (.tmp 43) (.tmp 44) 22 rfl 23 j0 (.slice none 0 0) 24 Tryd.underlying22 hj hy0 hy1 hy2 rfl (.slice V1 (k + 1) c1) (k + 1) (vs ++ [.slice A a cap]) rfl hO1.own gN V k c vs rfl HE.out.1 hgN HCEL.out (by unfold maxLen; omega) (by omega) ?_
            intro V2 c2 y2 hown2 hgrow2 hat2
            have hO2 := hO1.grown hZ1 hgrow2 hown2 hat2
            have hB2 := hB1.grown hgrow2 hZ1 (fun g hg => hO1.from_ g hg)
            have hZ2 : Bs ≤ y2.heap.size := Nat.le_trans hZ1 hgrow2.size
            have hR2 := hR1.keep ((Ch.refl ((.slice V1 (k + 1) c1 : Value).ownBlock.toList) y1).grown hgrow2 (fun g hg _ => by rw [hg]; simp)) (fun _ hm => by simp only [Option.mem_toList] at hm; have := hOlt _ hm; omega)
            refine hK.out (fun _ => True) _ _ (fun _ _ => trivial) trivial ?_
            clear hK K
            refine Tree.one rfl (fun K hK => ?_)
            rw [if_pos (by rfl)]
            refine wp_append_holds (.tmp 45) (.tmp 49) 22 rfl 23 j0 (.slice none 0 0) 24 Tryd.underlying22 hj hy0 hy1 hy2 rfl (.slice V2 (k + 1 + k) c2) (k + 1 + k) (vs ++ [.slice A a cap] ++ vs) rfl hO2.own (y.heap.size) (some ⟨y.heap.size, 0, none⟩) 1 1 [.slice Bd (m - a) (cap - a)] rfl rfl hR2 (by simp [Value.oneCell']) (by unfold maxLen; omega) (by omega) ?_
            intro V3 c3 y3 hown3 hgrow3 hat3
            have hO3 := hO2.grown hZ2 hgrow3 hown3 hat3
            have hB3 := hB2.grown hgrow3 hZ2 (fun g hg => hO2.from_ g hg)
            refine hK.out (fun _ => True) _ _ (fun _ _ => trivial) trivial ?_
            clear hK K
            iterate 1 (refine Tree.take (v := ?_) rfl (by rfl) ?_ ?_; rotate_left 1; (focus (intro x hx; go_simp <;> (first | with_reducible rfl | rw [if_pos (by omega)]))); simp only [Act.put, List.setIfInBounds_toArray, List.set_cons_zero, List.set_cons_succ])
            refine Tree.done ?_
            go_wp2_with fail
            go_meet
            case rel => exact ⟨V3, c3, rfl, hO3, hB3⟩
        case rest =>
          obtain ⟨V2, c2, rfl, HO11, HB11⟩ := hcut
          obtain ⟨gN, hgN⟩ := HN.out wc HB11.out
          have HGN := Lib.hid hgN
          have HZ11 : Hid (Bs ≤ wc.heap.size) := Nat.le_trans HBz.out HB11.out.size
          clear hgN
          go_upto_region 13 with (first
            | (at_builtin; refine wpList_append_holds rfl (.tmp 51) (.tmp 52) 22 rfl 23 j0 (.slice none 0 0) 24 Tryd.underlying22 hj hy0 hy1 hy2 rfl (.slice V2 (k + 1 + k + 1) c2) (k + 1 + k + 1) (vs ++ [.slice A a cap] ++ vs ++ [.slice Bd (m - a) (cap - a)]) rfl HO11.out.own gN V k c vs rfl HE.out.1 HGN.out HCEL.out (by unfold maxLen; omega) (by omega) ?_; intro V3 c3 y3 hown3 hgrow3 hat3))
          have HO12 := Lib.hid (HO11.out.grown HZ11.out hgrow3 hown3 hat3)
          have hB12 : Below Bs wr y3 := HB11.out.grown hgrow3 HZ11.out (fun g hg => HO11.out.from_ g hg)
          have HS12 := Lib.hid (HST.out y3 hB12)
          have HN12 : Hid (OwnO y3 x1.heap.size V k c vs) := HO1.out.keep hB12 (fun g hg => Nat.lt_of_lt_of_le (HO1.out.lt g hg) HBz2.out)
          clear hown3 hgrow3 hat3 hB12 HGN HZ11 HO11 HB11 HO10 HB10 HN HO1 HBz HST
          have HTL : Hid ((l.take a).length = a) := by show _ = _; rw [List.length_take, HLL.out]; omega
          have HDL : Hid ((l.drop a).length = m - a) := by show _ = _; rw [List.length_drop, HLL.out]
          have HPA : Hid (∀ y, St w.heap.size w g A l y → OwnO y Bs V3 (k + 1 + k + 1 + k) c3 (vs ++ [.slice A a cap] ++ vs ++ [.slice Bd (m - a) (cap - a)] ++ vs) → PartsAt y V3 (psOf l a k)) := by
            intro y hst hown
            refine hown.parts (by simp [HE.out.1]; omega) ?_
            have hE := HE.out.vals y
            refine (((hE.append (Vals.one (g := g) ?_ HTL.out)).append hE).append (Vals.one (g := g) ?_ HDL.out)).append hE
            · rw [show bcs (l.take a) = (bcs l).take a by simp [bcs]]
              exact hst.holds.take a
            · have := hst.holds.drop a cap (by rw [bcs_length, HLL.out]; exact ham) (by rw [bcs_length, HLL.out]; omega)
              rw [HBd.out, show (bcs l).drop a = bcs (l.drop a) by simp [bcs]] at this
              exact this
          have HLE : Hid (∀ p ∈ psOf l a k, p.length ≤ 1099511627776) := fun p hp => by have := psOf_le l a k p hp; have := HLL.out; omega
          have HV1 : Hid (((sum (psOf l a k).flatten).toNat : Int) = ((sum l).toNat : Int)) := by show _ = _; rw [psOf_flat]
          have HV2 : Hid (((sum ([l] : List (List UInt8)).flatten).toNat : Int) = ((sum l).toNat : Int)) := by show _ = _; rw [List.flatten_cons, List.flatten_nil, List.append_nil]
          have HV3 : Hid (((sum (List.replicate k ([] : List UInt8)).flatten).toNat : Int) = 65535) := by show _ = _; rw [none_flat, sum_none]; rfl
          have HNP : Hid (∀ y, OwnO y x1.heap.size V k c vs → PartsAt y V (List.replicate k [])) := fun y h => h.parts HE.out.1 (HE.out.vals y)
          have HNL : Hid (∀ p ∈ List.replicate k ([] : List UInt8), p.length ≤ 1099511627776) := fun p hp => by rw [(List.mem_replicate.1 hp).2]; simp
          have hn := (sum l).isLt
          generalize (sum l).toNat = n at *
          have hk11 : k ≤ 11 := by omega
          go_wp2_with fail
          refine (bits_on (psOf l a k) (HPA.out y3 HS12.out HO12.out) (psOf_length l a k) (by rw [psOf_length]; omega) HLE.out _ HV1.out).mono ?_
          rintro e y4 ⟨rfl, hb4⟩
          have HS4 := Lib.hid (HS12.out.step hb4)
          have HO4 := Lib.hid (HO12.out.step hb4)
          have HN4 := Lib.hid (HN12.out.step hb4)
          clear HS12 HO12 HN12 hb4
          go_wp2_with fail
          refine (bits_on [l] (one_part HS4.out.holds HLL.out) rfl (by simp) (by simp [HLL.out]; omega) _ HV2.out).mono ?_
          rintro e y5 ⟨rfl, hb5⟩
          have HS5 := Lib.hid ((HS4.out.alloc _).step hb5)
          have HO5 := Lib.hid ((HO4.out.alloc _).step hb5)
          have HN5 := Lib.hid ((HN4.out.alloc _).step hb5)
          clear HS4 HO4 HN4 hb5
          go_wp2_with fail
          refine (table_on (psOf l a k) HS5.out.tab (HPA.out y5 HS5.out HO5.out) (psOf_length l a k) (by rw [psOf_length]; omega) HLE.out _ HV1.out).mono ?_
          rintro e y6 ⟨rfl, hb6⟩
          have HS6 := Lib.hid (HS5.out.step hb6)
          have HN6 := Lib.hid (HN5.out.step hb6)
          clear HS5 HO5 HN5 hb6
          go_wp2_with fail
          refine (bits_on [l] (one_part HS6.out.holds HLL.out) rfl (by simp) (by simp [HLL.out]; omega) _ HV2.out).mono ?_
          rintro e y7 ⟨rfl, hb7⟩
          have HS7 := Lib.hid ((HS6.out.alloc _).step hb7)
          have HN7 := Lib.hid ((HN6.out.alloc _).step hb7)
          clear HS6 HN6 hb7
          go_wp2_with fail
          refine (table_on (List.replicate k []) HS7.out.tab (HNP.out y7 HN7.out) (by simp) (by simp; omega) HNL.out _ HV3.out).mono ?_
          rintro e y8 ⟨rfl, hb8⟩
          have HS8 := Lib.hid (HS7.out.step hb8)
          clear HS7 HN7 hb8
          go_wp2
          go_ret
          exact ⟨rfl, HS8.out.below⟩

end Go.Proofs.YtcboklkpfjefmaaDoor
