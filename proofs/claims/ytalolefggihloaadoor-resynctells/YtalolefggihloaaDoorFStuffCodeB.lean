/-
  stuff.Unstuff, as it landed (two labels, each a state): what it answers.
-/
import Derived.Test.YtalolefggihloaaDoorFStuffShown
import Derived.Scope
import Derived.ScopeJumps
namespace Go.Proofs.YtalolefggihloaaDoor
set_option linter.unusedVariables false
set_option linter.unusedSimpArgs false
open Go.RowKit

/-- As Q; by a goto: J of its label. -/
def jumps (J : Nat → Act → World → Prop) (Q : Exit → Act → World → Prop) : Exit → Act → World → Prop
  | .goto l, a, w => J l a w
  | e, a, w => Q e a w

/-- A scope with any number of labels: what holds at every jump, and a measure that every pass lowers. -/
theorem wp_scope_many {P : Program} {a : Act} {w : World} {Q : Exit → Act → World → Prop} {c : Code} (J : Nat → Act → World → Prop) (μ : Act → World → Nat)
    (pass : ∀ l a w, J l a w → ∃ X, findLabel c l = some (.seq .skip X) ∧ X.wp P (jumps (fun l' a' w' => J l' a' w' ∧ μ a' w' < μ a w) Q) a w)
    (first : (∀ l X a w, findLabel c l = some (.seq .skip X) → J l a w → X.wp P (jumps J Q) a w) → c.wp P (jumps J Q) a w) : (Code.scope c).wp P Q a w := by
  replace first := first (fun l X a w hX hJ => by
    obtain ⟨Y, hY, hp⟩ := pass l a w hJ
    rw [hX] at hY
    injection hY with hY
    injection hY with _ hY
    subst hY
    refine wp_mono hp ?_
    intro e a' w' hq
    cases e with
    | goto l' => exact hq.1
    | normal => exact hq
    | exit id => exact hq
    | ret => exact hq
    | panic ch => exact hq
    | outgrown => exact hq)
  replace pass : ∀ l a w, J l a w → ∃ rest, findLabel c l = some rest ∧ rest.wp P (jumps (fun l' a' w' => J l' a' w' ∧ μ a' w' < μ a w) Q) a w := by
    intro l a w hJ
    obtain ⟨X, hX, hp⟩ := pass l a w hJ
    exact ⟨_, hX, wp_seq (wp_skip hp)⟩
  intro b k cs
  have key : ∀ m l a w, μ a w = m → J l a w → ∃ rest, findLabel c l = some rest ∧ ∃ e a' w', Q e a' w' ∧ Arrives P (lone (b.at a (.code rest :: .inScope c :: k)) cs w) b k cs e a' w' := by
    intro m
    induction m using Nat.strongRecOn with
    | _ m ih =>
      intro l a w hm hJ
      obtain ⟨rest, hf, hp⟩ := pass l a w hJ
      refine ⟨rest, hf, ?_⟩
      obtain ⟨e, a₁, w₁, hq, harr⟩ := hp b (.inScope c :: k) cs
      cases e with
      | normal => exact ⟨.normal, a₁, w₁, hq, Steps.trans harr (.one step_inScope)⟩
      | exit id => exact ⟨.exit id, a₁, w₁, hq, fun k' hk => harr k' (by simp [exitTo, hk])⟩
      | goto l' =>
        obtain ⟨hJ', hlt⟩ := hq
        obtain ⟨rest', hf', e₂, a₂, w₂, hq₂, harr₂⟩ := ih _ (by omega) l' a₁ w₁ rfl hJ'
        have hg : gotoIn l' (.inScope c :: k) = some (.code rest' :: .inScope c :: k) := by simp [gotoIn, hf']
        exact ⟨e₂, a₂, w₂, hq₂, .of_steps (harr _ hg) harr₂⟩
      | ret => exact ⟨_, a₁, w₁, hq, harr⟩
      | panic ch => exact ⟨_, a₁, w₁, hq, harr⟩
      | outgrown => exact ⟨_, a₁, w₁, hq, harr⟩
  obtain ⟨e, a₁, w₁, hq, harr⟩ := first b (.inScope c :: k) cs
  cases e with
  | normal => exact ⟨.normal, a₁, w₁, hq, .head step_scope (Steps.trans harr (.one step_inScope))⟩
  | exit id => exact ⟨.exit id, a₁, w₁, hq, fun k' hk => .head step_scope (harr k' (by simp [exitTo, hk]))⟩
  | goto l' =>
    obtain ⟨rest', hf', e₂, a₂, w₂, hq₂, harr₂⟩ := key _ l' a₁ w₁ rfl hq
    have hg : gotoIn l' (.inScope c :: k) = some (.code rest' :: .inScope c :: k) := by simp [gotoIn, hf']
    exact ⟨e₂, a₂, w₂, hq₂, .of_steps (.head step_scope (harr _ hg)) harr₂⟩
  | ret => exact ⟨_, a₁, w₁, hq, .of_steps (.one step_scope) harr⟩
  | panic ch => exact ⟨_, a₁, w₁, hq, .of_steps (.one step_scope) harr⟩
  | outgrown => exact ⟨_, a₁, w₁, hq, .of_steps (.one step_scope) harr⟩

/-- What is left to be unstuffed at a label. -/
def left (L : Nat) (r : List UInt8) : List UInt8 := if L = 0 then r else 125 :: r
theorem left0 (r : List UInt8) : left 0 r = r := rfl
theorem left1 (r : List UInt8) : left 1 r = 125 :: r := rfl

/-- What is known of memory at a label: what came out so far, in a row of its own; nothing that was there has turned. -/
structure Mid (w : World) (l : List UInt8) (L k : Nat) (F : List UInt8) (V : Option Addr) (cv : Nat) (x : World) : Prop where
  own : Own1 x w.heap.size V F.length cv F
  below : Below w.heap.size w x
  left : unst l = cat F (unst (left L (l.drop k)))
  le : F.length ≤ k

def JU (w : World) (A : Option Addr) (n c : Nat) (l : List UInt8) (L : Nat) (a' : Act) (x : World) : Prop :=
  L < 2 ∧ ∃ (k : Nat) (F : List UInt8) (V : Option Addr) (cv : Nat) (u6 u7 u8 u9 u10 u11 u12 u13 u14 u15 u16 u17 u18 u19 u20 u21 u22 u23 u24 u25 u26 u27 u28 u29 u30 u31 u32 u33 u34 u35 u36 u37 u38 u39 u40 u41 u42 u43 u44 u45 u46 u47 u48 u49 u50 u51 u52 u53 : Value), k ≤ l.length ∧ Hid (Mid w l L k F V cv x) ∧ a' = { tmps := #[.slice A n c, undef, .slice none 0 0, .int .i64 0, .slice V F.length cv, .int .i64 k, u6, u7, u8, u9, u10, u11, u12, u13, u14, u15, u16, u17, u18, u19, u20, u21, u22, u23, u24, u25, u26, u27, u28, u29, u30, u31, u32, u33, u34, u35, u36, u37, u38, u39, u40, u41, u42, u43, u44, u45, u46, u47, u48, u49, u50, u51, u52, u53], defers := [] }

/-- One byte more. -/
theorem Mid.more {w x y : World} {V V' : Option Addr} {l F : List UInt8} {L k cv cv' : Nat} {b : UInt8} (h : Mid w l L k F V cv x) (tmp : Obj) (hown : y.ownsRow 0 5 1 (.slice V' (F.length + 1) cv') (F.length + 1) (bcs F ++ bcs [b])) (hg : (x.alloc tmp).grownBy y (Value.slice V F.length cv).ownBlock)
    (hat : (Value.slice V' (F.length + 1) cv').ownBlock = (Value.slice V F.length cv).ownBlock ∨ (Value.slice V' (F.length + 1) cv').ownBlock = some (x.alloc tmp).heap.size) (hu : unst l = cat (F ++ [b]) (unst (l.drop (k + 1)))) : Mid w l 0 (k + 1) (F ++ [b]) V' cv' y := by
  have h1 := h.own.alloc tmp
  have h2 := h.below.alloc h.below.size tmp
  rw [← bcs_append] at hown
  obtain ⟨h3, h4⟩ := h1.grown h2.size hg hown (by simp) hat
  have hl := h.le
  refine ⟨?_, h2.trans h4, ?_, ?_⟩
  · rw [show (F ++ [b]).length = F.length + 1 by simp]; exact h3
  · rw [left0]; exact hu
  · simp; omega

/-- Nothing, with an error: no row at all. -/
theorem Own1.none (x : World) (B : Nat) : Own1 x B none 0 0 [] := ⟨⟨by simp [bcs], .inl ⟨rfl, rfl⟩⟩, by intro h hh; simp [Value.ownBlock] at hh, rfl⟩

theorem u8_xor94 : bits .xor .u8 94 32 = 126 := by decide
theorem u8_xor93 : bits .xor .u8 93 32 = 125 := by decide

set_option maxHeartbeats 4000000 in
set_option maxRecDepth 100000 in
theorem unstuff_on : UnstuffOn := by
  intro g A n c l w hh hn hcc hle
  have HH := Lib.hid hh
  clear hh
  obtain ⟨i0, hi, hz0, hz1, hz2⟩ := info_parts info_byte
  obtain ⟨w1, hmk, hown1, hg1⟩ := run_make_own (P := Tryd.prog) w w.heap.size 32 5 i0 (.int .u8 0) 1 Tryd.underlying32 hi hz0 hz1 .i64 .i64 n (by rw [hz2]; omega) (by unfold maxLen; omega) (Nat.le_refl _)
  have HM0 : Hid (Mid w l 0 0 [] (some ⟨w.heap.size, 0, none⟩) n w1) :=
    ⟨⟨⟨hown1.1, by rcases hown1.2 with hx | ⟨g', cap, cur, hv, _, r⟩; exact .inl hx; exact .inr ⟨g', cap, cur, hv, Nat.zero_le _, r⟩⟩, fun h hh => (hown1.lt h hh).1, rfl⟩, (Below.refl _ w).grown hg1 (Nat.le_refl _) (fun k e => by cases e), (by rw [left0, List.drop_zero, cat_nil]), Nat.le_refl _⟩
  clear hown1 hg1
  go_enter Tryd.func27, Tryd.ntmps27
  go_wp2
  refine wp_scope_many (JU w A n c l) (fun a' _ => l.length - (intOf (a'.tmps.getD 5 undef)).toNat) ?_ ?_
  · rintro L a' x ⟨hL, k, F, V, cv, u6, u7, u8, u9, u10, u11, u12, u13, u14, u15, u16, u17, u18, u19, u20, u21, u22, u23, u24, u25, u26, u27, u28, u29, u30, u31, u32, u33, u34, u35, u36, u37, u38, u39, u40, u41, u42, u43, u44, u45, u46, u47, u48, u49, u50, u51, u52, u53, hk, HM, rfl⟩
    have hLL : L = 0 ∨ L = 1 := by omega
    rcases hLL with rfl | rfl
    · refine ⟨_, rfl, ?_⟩
      have HU0 := Lib.hid HM.out.left
      rw [left0] at HU0
      have hFk := HM.out.le
      by_cases hlt : k < l.length
      · have hlt' : (k : Int) < (n : Int) := by omega
        have hne : ((k : Int) == (n : Int)) = false := by rw [beq_eq_false_iff_ne]; omega
        obtain ⟨hgl, o, rfl, hcell⟩ := HH.out (by rw [bcs_length]; omega)
        have hcx : x.cell? ⟨g, o + k, none⟩ = some (.int .u8 (l[k].toNat : Int)) := (HM.out.below.cell (p := ⟨g, o + k, none⟩) hgl).trans (hcell k _ (bcs_get l k hlt))
        rw [drop_next l k hlt] at HU0
        obtain ⟨b, hb⟩ : ∃ b, l[k] = b := ⟨_, rfl⟩
        rw [hb] at hcx HU0
        clear hb hcell
        by_cases h1 : b = 126
        · subst h1
          rw [unst_flag] at HU0
          rw [show ((126 : UInt8).toNat : Int) = 126 from rfl] at hcx
          go_wp2
          simp only [jumps]
          go_ret2
          have hu : unst l = .error 3 := HU0.out
          exact ⟨none, 0, 0, by rw [uErr_error hu]; rfl, by rw [uOut_error hu]; exact Own1.none _ _, HM.out.below⟩
        · by_cases h2 : b = 125
          · subst h2
            rw [show ((125 : UInt8).toNat : Int) = 125 from rfl] at hcx
            have HM1 : Hid (Mid w l 1 (k + 1) F V cv x) := ⟨HM.out.own, HM.out.below, HU0.out, by omega⟩
            go_wp2
            go_step3
            refine ⟨⟨by omega, k + 1, F, V, cv, _, _, _, _, _, _, _, _, _, _, _, _, _, _, _, _, _, _, _, _, _, _, _, _, _, _, _, _, _, _, _, _, _, _, _, _, _, _, _, _, _, _, _, _, _, _, _, _, by omega, HM1, rfl⟩, ?_⟩
            simp [intOf]
            omega
          · have hn1 : ((b.toNat : Int) == 126) = false := u8_ne (n := 126) (by omega) h1
            have hn2 : ((b.toNat : Int) == 125) = false := u8_ne (n := 125) (by omega) h2
            rw [unst_plain _ _ h1 h2, cat_cat] at HU0
            have HU : Hid (unst l = cat (F ++ [b]) (unst (l.drop (k + 1)))) := HU0
            clear h1 h2
            go_wp2_with (at_builtin; refine wpList_append_holds rfl (.tmp 24) (.tmp 29) 32 rfl 5 i0 (.int .u8 0) 1 Tryd.underlying32 hi hz0 hz1 hz2 rfl (.slice V F.length cv) F.length (bcs F) rfl (HM.out.own.alloc _).own x.heap.size (some ⟨x.heap.size, 0, none⟩) 1 1 (bcs [b]) rfl rfl (lit_holds x [b]) (bcs_one _) (by unfold maxLen; omega) (by omega) ?_; intro V5 c5 x5 hown5 hgr5 hat5; have HM5 := Lib.hid (HM.out.more _ hown5 hgr5 hat5 HU.out); clear hown5 hgr5 hat5)
            go_step3
            rw [show F.length + 1 = (F ++ [b]).length by simp]
            refine ⟨⟨by omega, k + 1, F ++ [b], V5, c5, _, _, _, _, _, _, _, _, _, _, _, _, _, _, _, _, _, _, _, _, _, _, _, _, _, _, _, _, _, _, _, _, _, _, _, _, _, _, _, _, _, _, _, _, _, _, _, _, by omega, HM5, rfl⟩, ?_⟩
            simp [intOf]
            omega
      · have hkk : k = n := by omega
        have hke : ((k : Int) == (n : Int)) = true := by rw [beq_iff_eq]; omega
        rw [List.drop_eq_nil_of_le (by omega), unst_nil] at HU0
        go_wp2
        simp only [jumps]
        go_ret2
        have hu : unst l = .ok F := by rw [HU0.out, cat, List.append_nil]
        exact ⟨V, _, cv, by rw [uErr_ok hu]; rfl, by rw [uOut_ok hu]; exact HM.out.own, HM.out.below⟩
    · refine ⟨_, rfl, ?_⟩
      have HU0 := Lib.hid HM.out.left
      rw [left1] at HU0
      have hFk := HM.out.le
      by_cases hlt : k < l.length
      · have hlt' : (k : Int) < (n : Int) := by omega
        have hne : ((k : Int) == (n : Int)) = false := by rw [beq_eq_false_iff_ne]; omega
        obtain ⟨hgl, o, rfl, hcell⟩ := HH.out (by rw [bcs_length]; omega)
        have hcx : x.cell? ⟨g, o + k, none⟩ = some (.int .u8 (l[k].toNat : Int)) := (HM.out.below.cell (p := ⟨g, o + k, none⟩) hgl).trans (hcell k _ (bcs_get l k hlt))
        rw [drop_next l k hlt] at HU0
        obtain ⟨b, hb⟩ : ∃ b, l[k] = b := ⟨_, rfl⟩
        rw [hb] at hcx HU0
        clear hb hcell
        by_cases h1 : b = 94
        · subst h1
          rw [unst_good _ _ (by decide), cat_cat, show (94 : UInt8) + 32 = 126 from rfl] at HU0
          rw [show ((94 : UInt8).toNat : Int) = 94 from rfl] at hcx
          have HU : Hid (unst l = cat (F ++ [126]) (unst (l.drop (k + 1)))) := HU0
          have hxr := u8_xor94
          go_wp2_with (at_builtin; refine wpList_append_holds rfl (.tmp 44) (.tmp 50) 32 rfl 5 i0 (.int .u8 0) 1 Tryd.underlying32 hi hz0 hz1 hz2 rfl (.slice V F.length cv) F.length (bcs F) rfl (HM.out.own.alloc _).own x.heap.size (some ⟨x.heap.size, 0, none⟩) 1 1 (bcs [126]) rfl rfl (lit_holds x [126]) (bcs_one _) (by unfold maxLen; omega) (by omega) ?_; intro V5 c5 x5 hown5 hgr5 hat5; have HM5 := Lib.hid (HM.out.more _ hown5 hgr5 hat5 HU.out); clear hown5 hgr5 hat5)
          go_step3
          rw [show F.length + 1 = (F ++ [126]).length by simp]
          refine ⟨⟨by omega, k + 1, F ++ [126], V5, c5, _, _, _, _, _, _, _, _, _, _, _, _, _, _, _, _, _, _, _, _, _, _, _, _, _, _, _, _, _, _, _, _, _, _, _, _, _, _, _, _, _, _, _, _, _, _, _, _, by omega, HM5, rfl⟩, ?_⟩
          simp [intOf]
          omega
        · by_cases h2 : b = 93
          · subst h2
            rw [unst_good _ _ (by decide), cat_cat, show (93 : UInt8) + 32 = 125 from rfl] at HU0
            rw [show ((93 : UInt8).toNat : Int) = 93 from rfl] at hcx
            have HU : Hid (unst l = cat (F ++ [125]) (unst (l.drop (k + 1)))) := HU0
            have hxr := u8_xor93
            go_wp2_with (at_builtin; refine wpList_append_holds rfl (.tmp 44) (.tmp 50) 32 rfl 5 i0 (.int .u8 0) 1 Tryd.underlying32 hi hz0 hz1 hz2 rfl (.slice V F.length cv) F.length (bcs F) rfl (HM.out.own.alloc _).own x.heap.size (some ⟨x.heap.size, 0, none⟩) 1 1 (bcs [125]) rfl rfl (lit_holds x [125]) (bcs_one _) (by unfold maxLen; omega) (by omega) ?_; intro V5 c5 x5 hown5 hgr5 hat5; have HM5 := Lib.hid (HM.out.more _ hown5 hgr5 hat5 HU.out); clear hown5 hgr5 hat5)
            go_step3
            rw [show F.length + 1 = (F ++ [125]).length by simp]
            refine ⟨⟨by omega, k + 1, F ++ [125], V5, c5, _, _, _, _, _, _, _, _, _, _, _, _, _, _, _, _, _, _, _, _, _, _, _, _, _, _, _, _, _, _, _, _, _, _, _, _, _, _, _, _, _, _, _, _, _, _, _, _, by omega, HM5, rfl⟩, ?_⟩
            simp [intOf]
            omega
          · have hn1 : ((b.toNat : Int) == 94) = false := u8_ne (n := 94) (by omega) h1
            have hn2 : ((b.toNat : Int) == 93) = false := u8_ne (n := 93) (by omega) h2
            rw [unst_bad _ _ (by rintro (h | h); exact h1 h; exact h2 h)] at HU0
            go_wp2
            simp only [jumps]
            go_ret2
            have hu : unst l = .error 3 := HU0.out
            exact ⟨none, 0, 0, by rw [uErr_error hu]; rfl, by rw [uOut_error hu]; exact Own1.none _ _, HM.out.below⟩
      · have hkk : k = n := by omega
        have hke : ((k : Int) == (n : Int)) = true := by rw [beq_iff_eq]; omega
        rw [List.drop_eq_nil_of_le (by omega), unst_end] at HU0
        go_wp2
        simp only [jumps]
        go_ret2
        have hu : unst l = .error 2 := HU0.out
        exact ⟨none, 0, 0, by rw [uErr_error hu]; rfl, by rw [uOut_error hu]; exact Own1.none _ _, HM.out.below⟩
  · intro H
    have HX := Lib.hid H
    clear H
    go_wp2
    go_step3
    simp only [Exit.then]
    refine (by assumption : ∀ a w, _ → _) _ _ ?_
    exact HX.out 0 _ _ _ rfl ⟨by omega, 0, [], _, _, _, _, _, _, _, _, _, _, _, _, _, _, _, _, _, _, _, _, _, _, _, _, _, _, _, _, _, _, _, _, _, _, _, _, _, _, _, _, _, _, _, _, _, _, _, _, _, _, Nat.zero_le _, HM0, rfl⟩

end Go.Proofs.YtalolefggihloaaDoor
