/-
  lamplightlaw01.shown answers true, and turns nothing that was there.
-/
import Derived.Test.YtlaoheflblkgaaaWtr
import Derived.Lib.SlBytesConst
namespace Go.Proofs.Ytlaoheflblkgaaa
set_option linter.unusedVariables false
set_option linter.unusedSimpArgs false
open Go.RowKit

theorem convert_row {w : World} {G : Nat} {l : List UInt8} (h : Row w G l) :
    (convert 22 9 (.slice (some ⟨G, 0, none⟩) l.length l.length)).run Try.prog w = .ok (.string ⟨l.toArray⟩) w := by
  have hr := run_convert_bytes_arg (P := Try.prog) w 22 5 Try.underlying22 Try.underlying5 G 0 l.length l.length (l.map fun b => (b.toNat : Int)) (by simp) (fun i hi => by
    rw [Nat.zero_add, h.cell i hi]
    simp [hi]) 9 Try.underlying9
  rw [hr]
  congr 2
  simp only [strOfNums, List.map_map]
  congr 2
  conv => rhs; rw [← List.map_id l]
  apply List.map_congr_left
  intro b _
  simp

theorem convert_len {w : World} {G n : Nat} {l : List UInt8} (h : Row w G l) (hn : l.length = n) :
    (convert 22 9 (.slice (some ⟨G, 0, none⟩) n n)).run Try.prog w = .ok (.string ⟨l.toArray⟩) w := by
  subst hn
  exact convert_row h
theorem convert_holds {w : World} {g n c : Nat} {A : Option Addr} {l : List UInt8} (h : Holds w g A (bcs l)) (hn : l.length = n) :
    (convert 22 9 (.slice A n c)).run Try.prog w = .ok (.string ⟨l.toArray⟩) w := by
  subst hn
  cases l with
  | nil =>
    cases A with
    | none => exact run_convert_bytes_nil (P := Try.prog) w 22 5 Try.underlying22 Try.underlying5 0 c 9 Try.underlying9
    | some ad =>
      have hl : (loadCells ad 0).run Try.prog w = .ok (([] : List Int).map (Value.int .u8)).toArray w := run_loadCells_list (P := Try.prog) w ad [] (by simp)
      rw [List.length_nil, run_convert_bytes_string w 22 9 5 _ 0 c Try.underlying22 Try.underlying5 Try.underlying9, run_bytesToString w ad 0 c [] hl]
      rfl
  | cons b l =>
    obtain ⟨_, o, rfl, hc⟩ := h (by simp [bcs])
    have hr := run_convert_bytes_arg (P := Try.prog) w 22 5 Try.underlying22 Try.underlying5 g o (b :: l).length c ((b :: l).map fun b => (b.toNat : Int)) (by simp) (fun i hi => by
      have hi' : i < ((b :: l).map fun b => (b.toNat : Int)).length := by rw [List.length_map]; exact hi
      rw [hc i (.int .u8 (((b :: l)[i]).toNat : Int)) (by rw [bcs, List.getElem?_map, List.getElem?_eq_getElem hi]; rfl)]
      rw [List.getD_eq_getElem?_getD, List.getElem?_eq_getElem hi', List.getElem_map]
      rfl) 9 Try.underlying9
    rw [hr]
    congr 2
    simp only [strOfNums, List.map_map]
    congr 2
    conv => rhs; rw [← List.map_id (b :: l)]
    apply List.map_congr_left
    intro b _
    simp
theorem read_len (g : Nat) (A : Option Addr) (n c : Nat) (l : List UInt8) (w : World) (h : Holds w g A (bcs l)) (hn : l.length = n) (hl : n ≤ 1099511627776) :
    Calls Try.prog 12 #[.slice A n c] w (ReadPost w l) := by
  subst hn
  exact read_any g A c l w h hl

/-- A new, empty writer. -/
theorem Wtr.new (w : World) : Wtr (w.alloc (.cells #[.slice none 0 0] 55)) w.heap.size w.heap.size [] :=
  ⟨_, heap_alloc_new w _, World.ownsRow_nil _ _ _ _, .inl ⟨rfl, rfl⟩⟩

theorem cell_alloc_new (w : World) (cs : Array Value) (t : TypeId) (n i : Nat) (hn : n = w.heap.size) : (w.alloc (.cells cs t)).cell? ⟨n, i, none⟩ = cs[i]? := by
  subst hn
  simp only [World.cell?, heap_alloc_new w _]
  simp

/-- Three parts, the one in the middle nil, two of them laid as constants. -/
theorem parts3 (w : World) (A B : List UInt8) (m1 m2 : Nat × Nat) (c1 c2 n1 n2 : Nat) (h1 : A.length = n1) (h2 : B.length = n2) :
    PartsOk (((w.alloc (.cells (bcs A).toArray 5 m1)).alloc (.cells (bcs B).toArray 5 m2)).alloc (.cells #[.slice (some ⟨w.heap.size, 0, none⟩) n1 c1, .slice none 0 0, .slice (some ⟨w.heap.size + 1, 0, none⟩) n2 c2] 22))
      (fun x => w.heap.size ≤ x) (some ⟨w.heap.size + 2, 0, none⟩) [A, [], B] := by
  subst h1 h2
  have hA : Holds (w.alloc (.cells (bcs A).toArray 5 m1)) w.heap.size (some ⟨w.heap.size, 0, none⟩) (bcs A) := Holds.of_row (fz := m1) (heap_alloc_new w _)
  have hB : Holds ((w.alloc (.cells (bcs A).toArray 5 m1)).alloc (.cells (bcs B).toArray 5 m2)) (w.heap.size + 1) (some ⟨w.heap.size + 1, 0, none⟩) (bcs B) := by
    have := Holds.of_row (fz := m2) (heap_alloc_new (w.alloc (.cells (bcs A).toArray 5 m1)) (.cells (bcs B).toArray 5 m2))
    simpa using this
  intro k l hk
  match k, hk with
  | 0, hk =>
    simp at hk
    subst hk
    exact ⟨w.heap.size + 2, 0, w.heap.size, _, _, rfl, by omega, (cell_alloc_new _ _ _ _ _ (by simp)).trans rfl, fun _ => Nat.le_refl _, (hA.keep ((Ch.refl [] _).alloc _) (by simp)).keep ((Ch.refl [] _).alloc _) (by simp)⟩
  | 1, hk =>
    simp at hk
    subst hk
    exact ⟨w.heap.size + 2, 0, w.heap.size, none, 0, rfl, by omega, (cell_alloc_new _ _ _ _ _ (by simp)).trans rfl, fun h => absurd h (by simp), Holds.nil _ _ _⟩
  | 2, hk =>
    simp at hk
    subst hk
    exact ⟨w.heap.size + 2, 0, w.heap.size + 1, _, _, rfl, by omega, (cell_alloc_new _ _ _ _ _ (by simp)).trans rfl, fun _ => by omega, hB.keep ((Ch.refl [] _).alloc _) (by simp)⟩

/-- Two parts, laid as constants. -/
theorem parts2 (w : World) (A B : List UInt8) (m1 m2 : Nat × Nat) (c1 c2 n1 n2 : Nat) (h1 : A.length = n1) (h2 : B.length = n2) :
    PartsAt (((w.alloc (.cells (bcs A).toArray 5 m1)).alloc (.cells (bcs B).toArray 5 m2)).alloc (.cells #[.slice (some ⟨w.heap.size, 0, none⟩) n1 c1, .slice (some ⟨w.heap.size + 1, 0, none⟩) n2 c2] 22))
      (some ⟨w.heap.size + 2, 0, none⟩) [A, B] := by
  subst h1 h2
  have hA : Holds (w.alloc (.cells (bcs A).toArray 5 m1)) w.heap.size (some ⟨w.heap.size, 0, none⟩) (bcs A) := Holds.of_row (fz := m1) (heap_alloc_new w _)
  have hB : Holds ((w.alloc (.cells (bcs A).toArray 5 m1)).alloc (.cells (bcs B).toArray 5 m2)) (w.heap.size + 1) (some ⟨w.heap.size + 1, 0, none⟩) (bcs B) := by
    have := Holds.of_row (fz := m2) (heap_alloc_new (w.alloc (.cells (bcs A).toArray 5 m1)) (.cells (bcs B).toArray 5 m2))
    simpa using this
  intro k l hk
  match k, hk with
  | 0, hk =>
    simp at hk
    subst hk
    exact ⟨w.heap.size + 2, 0, w.heap.size, _, _, rfl, (cell_alloc_new _ _ _ _ _ (by simp)).trans rfl, (hA.keep ((Ch.refl [] _).alloc _) (by simp)).keep ((Ch.refl [] _).alloc _) (by simp)⟩
  | 1, hk =>
    simp at hk
    subst hk
    exact ⟨w.heap.size + 2, 0, w.heap.size + 1, _, _, rfl, (cell_alloc_new _ _ _ _ _ (by simp)).trans rfl, hB.keep ((Ch.refl [] _).alloc _) (by simp)⟩

theorem const_one (w : World) (C : Array Value) (n c : Nat) :
    (convert 22 22 (.slice (some ⟨w.heap.size, 0, none⟩) n c)).run Try.prog (w.alloc (.cells C 5)) = .ok (.slice (some ⟨w.heap.size, 0, none⟩) n c) (w.alloc (.cells C 5 (C.size, C.size + 1))) :=
  Lib.run_convert_bytes_const (P := Try.prog) w 22 5 C n c Try.underlying22 Try.underlying5
theorem const_two (w : World) (o : Obj) (C : Array Value) (n c : Nat) :
    (convert 22 22 (.slice (some ⟨w.heap.size + 1, 0, none⟩) n c)).run Try.prog ((w.alloc o).alloc (.cells C 5)) = .ok (.slice (some ⟨w.heap.size + 1, 0, none⟩) n c) ((w.alloc o).alloc (.cells C 5 (C.size, C.size + 1))) := by
  have := const_one (w.alloc o) C n c
  rwa [show (w.alloc o).heap.size = w.heap.size + 1 by simp] at this

set_option maxHeartbeats 1000000 in
set_option maxRecDepth 100000 in
theorem shown_any (w : World) : Calls Try.prog 11 #[] w fun e w' => e = .returned (.bool true) ∧ Below w.heap.size w w' := by
  go_enter Try.func11, Try.ntmps11
  go_wp2_with fail
  have hh0 : Holds (w.alloc (.cells (bcs [2, 1, 0, 0, 1, 0, 9]).toArray 5)) w.heap.size (some ⟨w.heap.size, 0, none⟩) (bcs [2, 1, 0, 0, 1, 0, 9]) := Holds.of_row (heap_alloc_new w _)
  refine (read_any w.heap.size _ 7 [2, 1, 0, 0, 1, 0, 9] _ hh0 (by decide)).mono ?_
  rintro e w1 ⟨R, g, hR, hg, rfl, hr, hb⟩
  have hb1 : Below w.heap.size w w1 := ((Below.refl w.heap.size w).alloc (Nat.le_refl _) _).trans (hb.mono (by simp))
  replace hR : w.heap.size ≤ R := by simp at hR; omega
  clear hb hg hh0
  go_wp2_with fail
  refine (u16_ok R g _ w1 hr (by decide)).mono ?_
  rintro e w2 ⟨he, hr2, hc2⟩
  rw [show num (List.take 2 [2, 1, 0, 0, 1, 0, 9]) = 513 from by decide] at he
  subst he
  change Rdr w2 R g [0, 0, 1, 0, 9] at hr2
  go_wp2_with fail
  refine (u32_ok R g _ w2 hr2 (by decide)).mono ?_
  rintro e w3 ⟨he, hr3, hc3⟩
  rw [show num (List.take 4 [0, 0, 1, 0, 9]) = 256 from by decide] at he
  subst he
  change Rdr w3 R g [9] at hr3
  go_wp2_with fail
  refine (u16_short R g _ w3 hr3 (by decide)).mono ?_
  rintro e w4 ⟨rfl, rfl⟩
  go_wp2_with fail
  refine (left_any R g _ w3 hr3).mono ?_
  rintro e w4 ⟨he, rfl⟩
  subst he
  go_wp2_with fail
  refine (done_any R g _ w3 hr3).mono ?_
  rintro e w4 ⟨he, rfl⟩
  subst he
  have hb3 : Below w.heap.size w w3 := ((hb1.trans ((hc2.mono (G := [R]) (by simp)).belowAt (by simp; omega) hb1.size))).trans ((hc3.mono (G := [R]) (by simp)).belowAt (by simp; omega) (Nat.le_trans hb1.size hc2.size))
  clear hr hr2 hr3 hb1 hc2 hc3 hR
  go_wp2_with fail
  refine (wu16_any _ _ [] 513 _ (Wtr.new w3) (by simp) (by omega) (by omega)).mono ?_
  rintro e w4 ⟨rfl, g4, hg4, hw4, hc4⟩
  have hb4 : Below w.heap.size w w4 := (hb3.alloc hb3.size _).trans (hc4.belowAt (by simp [hb3.size]) (by simp; have := hb3.size; omega))
  replace hg4 : w.heap.size ≤ g4 := by have := hb3.size; simp at hg4; omega
  have hw3 : w.heap.size ≤ w3.heap.size := hb3.size
  have hg4' := hw4.lt
  generalize w3.heap.size = W at *
  clear hc4 hb3
  have kc := const_one
  have kd := const_two
  go_wp2_with fail
  refine (wbytes_any W g4 _ 3 [[97], [], [98, 99]] ([] ++ be16 (513 : Int).toNat) (fun x => w4.heap.size ≤ x) _ ?hw (parts3 w4 [97] [98, 99] _ _ _ _ _ _ rfl rfl) (by omega) (by omega) (by decide) (by decide)).mono ?_
  case hw => exact ((hw4.keep ((Ch.refl [] _).alloc _) (by simp) (by simp)).keep ((Ch.refl [] _).alloc _) (by simp) (by simp)).keep ((Ch.refl [] _).alloc _) (by simp) (by simp)
  rintro e w5 ⟨rfl, g5, hg5, hw5, hc5⟩
  have hb5 : Below w.heap.size w w5 := (((hb4.alloc hb4.size _).alloc (by have := hb4.size; simp; omega) _).alloc (by have := hb4.size; simp; omega) _).trans (hc5.belowAt (by simp; omega) (by have := hb4.size; simp; omega))
  obtain ⟨L, hL⟩ : ∃ L, L = [] ++ be16 (513 : Int).toNat ++ [[97], [], [98, 99]].flatten := ⟨_, rfl⟩
  rw [← hL] at hw5
  have hLe : (L == [2, 1, 97, 98, 99]) = true := by rw [hL]; decide
  have hLl : L.length ≤ 1099511627776 := by rw [hL]; decide
  clear hL hc5 hg5 hw4 hb4 hg4'
  go_wp2_with fail
  refine (wdone_any W g5 L w5 hw5 hLl).mono ?_
  rintro e w6 ⟨G, hG, rfl, hrow, hb6⟩
  have hcv := convert_row hrow
  have hb6' : Below w.heap.size w w6 := hb5.trans (hb6.mono hb5.size)
  clear hrow hb6 hG hw5
  go_wp2_with fail
  obtain ⟨M, hM⟩ : ∃ M : List UInt8, M = [[120], [121]].flatten := ⟨_, rfl⟩
  have hj := join_parts _ 2 2 [[120], [121]] _ (parts2 w6 [120] [121] (1, 2) (1, 2) 1 1 1 1 rfl rfl) rfl (by decide) (by decide)
  rw [← hM] at hj
  refine hj.mono ?_
  rintro e w7 ⟨G7, hG7, rfl, hrow7, hbj⟩
  have hMe : (M == [120, 121]) = true := by rw [hM]; decide
  have hcv7 := convert_row hrow7
  have hb7 : Below w.heap.size w w7 := (((hb6'.alloc hb6'.size _).alloc (by have := hb6'.size; simp; omega) _).alloc (by have := hb6'.size; simp; omega) _).trans (hbj.mono (by have := hb6'.size; simp; omega))
  clear hM hrow7 hbj hG7
  go_wp2
  go_ret
  exact ⟨rfl, hb7⟩

end Go.Proofs.Ytlaoheflblkgaaa
