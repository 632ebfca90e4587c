/-
  lamplightlaw02.shown answers true, and turns nothing that was there. Beside it: bytes as a string; parts of a call's own making.
-/
import Derived.Test.YtcboklkpfjefmaaDoorCrcSeal
import Derived.Lib.SlBytesConst
namespace Go.Proofs.YtcboklkpfjefmaaDoor
set_option linter.unusedVariables false
set_option linter.unusedSimpArgs false
open Go.RowKit

theorem convert_holds {w : World} {g n c : Nat} {A : Option Addr} {l : List UInt8} (h : Holds w g A (bcs l)) (hn : l.length = n) :
    (convert 23 9 (.slice A n c)).run Tryd.prog w = .ok (.string ⟨l.toArray⟩) w := by
  subst hn
  cases l with
  | nil =>
    cases A with
    | none => exact run_convert_bytes_nil (P := Tryd.prog) w 23 5 Tryd.underlying23 Tryd.underlying5 0 c 9 Tryd.underlying9
    | some ad =>
      have hl : (loadCells ad 0).run Tryd.prog w = .ok (([] : List Int).map (Value.int .u8)).toArray w := run_loadCells_list (P := Tryd.prog) w ad [] (by simp)
      rw [List.length_nil, run_convert_bytes_string w 23 9 5 _ 0 c Tryd.underlying23 Tryd.underlying5 Tryd.underlying9, run_bytesToString w ad 0 c [] hl]
      rfl
  | cons b l =>
    obtain ⟨_, o, rfl, hc⟩ := h (by simp [bcs])
    have hr := run_convert_bytes_arg (P := Tryd.prog) w 23 5 Tryd.underlying23 Tryd.underlying5 g o (b :: l).length c ((b :: l).map fun b => (b.toNat : Int)) (by simp) (fun i hi => by
      have hi' : i < ((b :: l).map fun b => (b.toNat : Int)).length := by rw [List.length_map]; exact hi
      rw [hc i (.int .u8 (((b :: l)[i]).toNat : Int)) (by rw [bcs, List.getElem?_map, List.getElem?_eq_getElem hi]; rfl)]
      rw [List.getD_eq_getElem?_getD, List.getElem?_eq_getElem hi', List.getElem_map]
      rfl) 9 Tryd.underlying9
    rw [hr]
    congr 2
    simp only [strOfNums, List.map_map]
    congr 2
    conv => rhs; rw [← List.map_id (b :: l)]
    apply List.map_congr_left
    intro b _
    simp

theorem const_one (w : World) (C : Array Value) (n c : Nat) :
    (convert 23 23 (.slice (some ⟨w.heap.size, 0, none⟩) n c)).run Tryd.prog (w.alloc (.cells C 5)) = .ok (.slice (some ⟨w.heap.size, 0, none⟩) n c) (w.alloc (.cells C 5 (C.size, C.size + 1))) :=
  Lib.run_convert_bytes_const (P := Tryd.prog) w 23 5 C n c Tryd.underlying23 Tryd.underlying5

/-- Two parts. -/
theorem two_part {w : World} {g g' : Nat} {A B : Option Addr} {c n c' n' : Nat} {l m : List UInt8} (h : Holds w g A (bcs l)) (hn : l.length = n) (h' : Holds w g' B (bcs m)) (hn' : m.length = n') : PartsAt (w.alloc (.cells #[.slice A n c, .slice B n' c'] 23)) (some ⟨w.heap.size, 0, none⟩) [l, m] := by
  subst hn hn'
  intro k x hk
  match k, hk with
  | 0, hk =>
    simp at hk
    subst hk
    exact ⟨w.heap.size, 0, g, A, c, rfl, (cell_alloc_new _ _ _ _ _ rfl).trans rfl, h.keep ((Ch.refl [] _).alloc _) (by simp)⟩
  | 1, hk =>
    simp at hk
    subst hk
    exact ⟨w.heap.size, 0, g', B, c', rfl, (cell_alloc_new _ _ _ _ _ rfl).trans rfl, h'.keep ((Ch.refl [] _).alloc _) (by simp)⟩

/-- Three parts. -/
theorem three_part {w : World} {g g' g'' : Nat} {A B C : Option Addr} {c n c' n' c'' n'' : Nat} {l m r : List UInt8} (h : Holds w g A (bcs l)) (hn : l.length = n) (h' : Holds w g' B (bcs m)) (hn' : m.length = n') (h'' : Holds w g'' C (bcs r)) (hn'' : r.length = n'') : PartsAt (w.alloc (.cells #[.slice A n c, .slice B n' c', .slice C n'' c''] 23)) (some ⟨w.heap.size, 0, none⟩) [l, m, r] := by
  subst hn hn' hn''
  intro k x hk
  match k, hk with
  | 0, hk =>
    simp at hk
    subst hk
    exact ⟨w.heap.size, 0, g, A, c, rfl, (cell_alloc_new _ _ _ _ _ rfl).trans rfl, h.keep ((Ch.refl [] _).alloc _) (by simp)⟩
  | 1, hk =>
    simp at hk
    subst hk
    exact ⟨w.heap.size, 0, g', B, c', rfl, (cell_alloc_new _ _ _ _ _ rfl).trans rfl, h'.keep ((Ch.refl [] _).alloc _) (by simp)⟩
  | 2, hk =>
    simp at hk
    subst hk
    exact ⟨w.heap.size, 0, g'', C, c'', rfl, (cell_alloc_new _ _ _ _ _ rfl).trans rfl, h''.keep ((Ch.refl [] _).alloc _) (by simp)⟩

/-- What stays known from world to world: the table; that a slice holds its bytes; that nothing that was there has turned. -/
structure St (B : Nat) (w : World) (g : Nat) (A : Option Addr) (l : List UInt8) (x : World) : Prop where
  tab : Tab x
  holds : Holds x g A (bcs l)
  below : Below B w x
  le : B ≤ x.heap.size
theorem St.step {B : Nat} {w x y : World} {g : Nat} {A : Option Addr} {l : List UInt8} (h : St B w g A l x) (hb : Below x.heap.size x y) : St B w g A l y :=
  ⟨h.tab.keep (Ch.of_below hb) (by simp), h.holds.keep (Ch.of_below hb) (by simp), h.below.trans (hb.mono h.le), Nat.le_trans h.le hb.size⟩
theorem St.alloc {B : Nat} {w x : World} {g : Nat} {A : Option Addr} {l : List UInt8} (h : St B w g A l x) (o : Obj) : St B w g A l (x.alloc o) := h.step (((Ch.refl [] x).alloc o).below (by simp))
theorem St.drew {B : Nat} {w x : World} {g : Nat} {A : Option Addr} {l : List UInt8} (h : St B w g A l x) : St B w g A l x.drew := h.step (((Ch.refl [] x).drew).below (by simp))
/-- Of another slice that is held by then. -/
theorem St.hold {B : Nat} {w x : World} {g g' : Nat} {A A' : Option Addr} {l l' : List UInt8} (h : St B w g A l x) (h' : Holds x g' A' (bcs l')) : St B w g' A' l' x := ⟨h.tab, h', h.below, h.le⟩

abbrev nine : List UInt8 := [49, 50, 51, 52, 53, 54, 55, 56, 57]
theorem sum_nine : (sum nine).toNat = 10673 := by decide +kernel
theorem sum_none : (sum []).toNat = 65535 := by decide +kernel
theorem sld_nine : sld nine = [49, 50, 51, 52, 53, 54, 55, 56, 57, 41, 177] := by decide +kernel
theorem valid_sld (l : List UInt8) : validB (sld l) = true := by simp [validB, sld_length, sld_sum]
theorem valid_nine : validB nine = false := by decide +kernel
theorem valid_none : validB [] = false := by decide +kernel

/-- The sums' contracts, with the world behind them as a new one. -/
theorem bits_on {P : Option Addr} {c n : Nat} (ps : List (List UInt8)) {w : World} (hp : PartsAt w P ps) (hlen : ps.length = n) (hn : ps.length ≤ 1099511627776) (hL : ∀ l ∈ ps, l.length ≤ 1099511627776) (v : Int) (hv : ((sum ps.flatten).toNat : Int) = v) :
    Calls Tryd.prog 15 #[.slice P n c] w fun e w' => e = .returned (.int .u16 v) ∧ Below w.heap.size w w' := by
  subst hlen
  refine (bits_any P c ps w hp hn hL).mono ?_
  rintro e w' ⟨rfl, rfl⟩
  exact ⟨by rw [hv], Below.refl _ _⟩
theorem table_on {P : Option Addr} {c n : Nat} (ps : List (List UInt8)) {w : World} (ht : Tab w) (hp : PartsAt w P ps) (hlen : ps.length = n) (hn : ps.length ≤ 1099511627776) (hL : ∀ l ∈ ps, l.length ≤ 1099511627776) (v : Int) (hv : ((sum ps.flatten).toNat : Int) = v) :
    Calls Tryd.prog 16 #[.slice P n c] w fun e w' => e = .returned (.int .u16 v) ∧ Below w.heap.size w w' := by
  subst hlen
  refine (table_any P c ps w ht hp hn hL).mono ?_
  rintro e w' ⟨rfl, rfl⟩
  exact ⟨by rw [hv], Below.refl _ _⟩
theorem append_on {g : Nat} {A : Option Addr} {n c : Nat} {l : List UInt8} {w : World} (ht : Tab w) (h : Holds w g A (bcs l)) (hn : l.length = n) (hl : n ≤ 1099511627774) :
    Calls Tryd.prog 18 #[.slice A n c] w fun e w' => ∃ X, w.heap.size ≤ X ∧ e = .returned (.slice (some ⟨X, 0, none⟩) (n + 2) (n + 2)) ∧ Row w' X (sld l) ∧ Below w.heap.size w w' := by
  refine (append_any g A n c l w ht h hn hl).mono ?_
  rintro e w' ⟨rfl, h1, h2⟩
  exact ⟨_, Nat.le_add_right _ 1, rfl, h1, h2⟩
theorem valid_on {g : Nat} {A : Option Addr} {n c : Nat} {l : List UInt8} {w : World} (ht : Tab w) (h : Holds w g A (bcs l)) (hn : l.length = n) (hc : n ≤ c) (hl : n ≤ 1099511627776) (b : Bool) (hb : validB l = b) :
    Calls Tryd.prog 17 #[.slice A n c] w fun e w' => e = .returned (.bool b) ∧ Below w.heap.size w w' := by
  subst hb
  exact valid_any g A n c l w ht h hn hc hl

set_option maxHeartbeats 2000000 in
set_option maxRecDepth 100000 in
theorem shown_any (w : World) (ht : Tab w) : Calls Tryd.prog 12 #[] w fun e w' => e = .returned (.bool true) ∧ Below w.heap.size w w' := by
  have HTB := Lib.hid ht
  clear ht
  have kc := const_one
  go_enter Tryd.func12, Tryd.ntmps12
  go_wp2
  have h0 : St w.heap.size w w.heap.size (some ⟨w.heap.size, 0, none⟩) nine (w.alloc (.cells #[.int .u8 49, .int .u8 50, .int .u8 51, .int .u8 52, .int .u8 53, .int .u8 54, .int .u8 55, .int .u8 56, .int .u8 57] 5 (9, 10))) :=
    ⟨HTB.out.keep ((Ch.refl [] _).alloc _) (by simp), Holds.of_row (cs := bcs nine) (heap_alloc_new w _), ((Ch.refl [] w).alloc _).below (by simp), by simp⟩
  clear kc HTB
  have hz0 : w.heap.size < (w.alloc (.cells #[.int .u8 49, .int .u8 50, .int .u8 51, .int .u8 52, .int .u8 53, .int .u8 54, .int .u8 55, .int .u8 56, .int .u8 57] 5 (9, 10))).heap.size := by simp
  generalize w.alloc (.cells #[.int .u8 49, .int .u8 50, .int .u8 51, .int .u8 52, .int .u8 53, .int .u8 54, .int .u8 55, .int .u8 56, .int .u8 57] 5 (9, 10)) = x0 at *
  have H0 := Lib.hid h0.drew
  clear h0
  refine region_plan [(true, 0), (false, 1), (false, 2), (true, 3), (true, 4), (true, 5), (true, 6), (true, 7), (true, 8), (false, 9), (false, 10), (true, 11), (true, 12), (true, 13), (false, 14), (true, 15), (true, 16), (true, 17), (true, 18), (false, 19), (true, 20), (true, 21), (true, 22), (true, 23), (true, 24), (false, 25), (false, 26), (true, 27), (true, 28), (true, 29), (false, 30), (true, 31), (true, 32), (true, 33), (false, 34), (true, 35), (true, 36), (true, 37)]
    (fun _ => True) (by kernel_rfl) (by kernel_rfl) (by kernel_rfl) rfl trivial ?_
  iterate 1 (refine Plan.take (v := ?_) rfl (by rfl) ?_ ?_; rotate_left 1; (focus (intro x hx; go_simp <;> (first | with_reducible rfl | rw [if_pos (by omega)]))); simp only [Act.put, List.setIfInBounds_toArray, List.set_cons_zero, List.set_cons_succ])
  refine Plan.loud rfl (fun K hK => ?_)
  go_simp
  refine hK.out _ _ _ (fun x hx => hx) trivial ?_
  clear hK K
  refine Plan.loud rfl (fun K hK => ?_)
  go_simp
  refine (bits_on [nine] (one_part H0.out.holds rfl) rfl (by simp) (by simp) 10673 (by rw [List.flatten_cons, List.flatten_nil, List.append_nil, sum_nine]; rfl)).mono ?_
  rintro e x1 ⟨rfl, hb1⟩
  have H1 := Lib.hid ((H0.out.alloc _).step hb1)
  clear H0 hb1
  refine hK.out _ _ _ (fun x hx => hx) trivial ?_
  clear hK K
  iterate 6 (refine Plan.take (v := ?_) rfl (by rfl) ?_ ?_; rotate_left 1; (focus (intro x hx; go_simp <;> (first | with_reducible rfl | rw [if_pos (by omega)]))); simp only [Act.put, List.setIfInBounds_toArray, List.set_cons_zero, List.set_cons_succ])
  refine Plan.loud rfl (fun K hK => ?_)
  go_simp
  refine hK.out _ _ _ (fun x hx => hx) trivial ?_
  clear hK K
  refine Plan.loud rfl (fun K hK => ?_)
  go_simp
  refine (table_on [nine.take 4, nine.drop 4] (H1.out.alloc _).tab (two_part (H1.out.holds.take 4) rfl (H1.out.holds.drop 4 9 (by decide) (by decide)) rfl) rfl (by simp) (by simp) 10673 (by rw [List.flatten_cons, List.flatten_cons, List.flatten_nil, List.append_nil, List.take_append_drop, sum_nine]; rfl)).mono ?_
  rintro e x2 ⟨rfl, hb2⟩
  have H2 := Lib.hid ((H1.out.alloc _).step hb2)
  clear H1 hb2
  refine hK.out _ _ _ (fun x hx => hx) trivial ?_
  clear hK K
  iterate 3 (refine Plan.take (v := ?_) rfl (by rfl) ?_ ?_; rotate_left 1; (focus (intro x hx; go_simp <;> (first | with_reducible rfl | rw [if_pos (by omega)]))); simp only [Act.put, List.setIfInBounds_toArray, List.set_cons_zero, List.set_cons_succ])
  refine Plan.loud rfl (fun K hK => ?_)
  go_simp
  refine (bits_on [] (fun k l h => by simp at h) rfl (by simp) (by simp) 65535 (by rw [List.flatten_nil, sum_none]; rfl)).mono ?_
  rintro e x3 ⟨rfl, hb3⟩
  have H3 := Lib.hid (H2.out.step hb3)
  clear H2 hb3
  refine hK.out _ _ _ (fun x hx => hx) trivial ?_
  clear hK K
  iterate 4 (refine Plan.take (v := ?_) rfl (by rfl) ?_ ?_; rotate_left 1; (focus (intro x hx; go_simp <;> (first | with_reducible rfl | rw [if_pos (by omega)]))); simp only [Act.put, List.setIfInBounds_toArray, List.set_cons_zero, List.set_cons_succ])
  refine Plan.loud rfl (fun K hK => ?_)
  go_simp
  refine (append_on (n := 9) H3.out.tab H3.out.holds rfl (by omega)).mono ?_
  rintro e x4 ⟨X, hX, rfl, hrow, hb4⟩
  have H4 := Lib.hid (H3.out.step hb4)
  have hcv := fun (x : World) (hx : Row x X (sld nine)) => convert_holds (c := 11) hx.holds (n := 11) rfl
  rw [sld_nine] at hcv
  have HC := Lib.hid hcv
  have HR := Lib.hid hrow
  rw [sld_nine] at HR
  clear H3 hb4 hrow hcv
  refine hK.out (fun x => (convert 23 9 (.slice (some ⟨X, 0, none⟩) 11 11)).run Tryd.prog x = .ok (.string ⟨[49, 50, 51, 52, 53, 54, 55, 56, 57, 41, 177].toArray⟩) x) _ _ (fun x hx => trivial) (HC.out _ HR.out) ?_
  clear hK K
  iterate 5 (refine Plan.take (v := ?_) rfl (by rfl) ?_ ?_; rotate_left 1; (focus (intro x hx; go_simp <;> (first | with_reducible rfl | rw [if_pos (by omega)]))); simp only [Act.put, List.setIfInBounds_toArray, List.set_cons_zero, List.set_cons_succ])
  refine Plan.loud rfl (fun K hK => ?_)
  go_simp
  refine (append_on (n := 9) H4.out.tab H4.out.holds rfl (by omega)).mono ?_
  rintro e x5 ⟨Y, hY, rfl, hrow, hb5⟩
  have H5 := Lib.hid (H4.out.step hb5)
  have HR5 := Lib.hid hrow
  replace HR := Lib.hid (HR.out.keep (Ch.of_below hb5) (by simp))
  clear H4 hb5 hrow
  refine hK.out _ _ _ (fun x hx => hx) (HC.out _ HR.out) ?_
  clear hK K
  refine Plan.loud rfl (fun K hK => ?_)
  go_simp
  refine (valid_on (n := 11) H5.out.tab HR5.out.holds rfl (by omega) (by omega) true (valid_sld nine)).mono ?_
  rintro e x6 ⟨rfl, hb6⟩
  have H6 := Lib.hid (H5.out.step hb6)
  replace HR := Lib.hid (HR.out.keep (Ch.of_below hb6) (by simp))
  clear H5 hb6 HR5
  refine hK.out _ _ _ (fun x hx => hx) (HC.out _ HR.out) ?_
  clear hK K
  iterate 3 (refine Plan.take (v := ?_) rfl (by rfl) ?_ ?_; rotate_left 1; (focus (intro x hx; go_simp <;> (first | with_reducible rfl | rw [if_pos (by omega)]))); simp only [Act.put, List.setIfInBounds_toArray, List.set_cons_zero, List.set_cons_succ])
  refine Plan.loud rfl (fun K hK => ?_)
  go_simp
  refine (valid_on (n := 9) H6.out.tab H6.out.holds rfl (by omega) (by omega) false valid_nine).mono ?_
  rintro e x7 ⟨rfl, hb7⟩
  have H7 := Lib.hid (H6.out.step hb7)
  replace HR := Lib.hid (HR.out.keep (Ch.of_below hb7) (by simp))
  clear H6 hb7
  refine hK.out _ _ _ (fun x hx => hx) (HC.out _ HR.out) ?_
  clear hK K
  iterate 3 (refine Plan.take (v := ?_) rfl (by rfl) ?_ ?_; rotate_left 1; (focus (intro x hx; go_simp <;> (first | with_reducible rfl | rw [if_pos (by omega)]))); simp only [Act.put, List.setIfInBounds_toArray, List.set_cons_zero, List.set_cons_succ])
  refine Plan.loud rfl (fun K hK => ?_)
  go_simp
  refine (valid_on (g := 0) (n := 0) (c := 0) (l := []) H7.out.tab (Holds.nil _ _ _) rfl (by omega) (by omega) false valid_none).mono ?_
  rintro e x8 ⟨rfl, hb8⟩
  have H8 := Lib.hid (H7.out.step hb8)
  replace HR := Lib.hid (HR.out.keep (Ch.of_below hb8) (by simp))
  clear H7 hb8
  refine hK.out _ _ _ (fun x hx => hx) (HC.out _ HR.out) ?_
  clear hK K
  iterate 3 (refine Plan.take (v := ?_) rfl (by rfl) ?_ ?_; rotate_left 1; (focus (intro x hx; go_simp <;> (first | with_reducible rfl | rw [if_pos (by omega)]))); simp only [Act.put, List.setIfInBounds_toArray, List.set_cons_zero, List.set_cons_succ])
  refine Plan.done ?_
  go_wp2
  go_ret
  exact ⟨rfl, H8.out.below⟩

end Go.Proofs.YtcboklkpfjefmaaDoor
