/-
  The document's wire (lamplightref06.Wire) in memory; New and Put, as they stand: what they answer.
-/
import Derived.Test.YthpalepkilmpiaaWireR
namespace Go.Proofs.Ythpalepkilmpiaa
set_option linter.unusedVariables false
set_option linter.unusedSimpArgs false
open Go.RowKit

theorem info_refrow : (Try.prog.info? 63).map (fun i => (i.zero, i.size, i.bytes)) = some (some (.agg #[.string ⟨#[]⟩, .int .i64 0]), 2, 24) := by kernel_rfl

def wcs (qs : List Rw) : List Value := qs.flatMap fun r => [.string ⟨r.l.toArray⟩, .int .i64 (r.h : Int)]
theorem wcs_length (qs : List Rw) : (wcs qs).length = qs.length * 2 := by
  induction qs with
  | nil => rfl
  | cons r rs ih =>
    rw [wcs, List.flatMap_cons, List.length_append]
    rw [wcs] at ih
    rw [ih]
    simp
    omega
theorem wcs_append (a b : List Rw) : wcs (a ++ b) = wcs a ++ wcs b := by simp [wcs]
theorem wcs_one (qs : List Rw) : ∀ v ∈ wcs qs, v.oneCell' = true := by
  intro v hv
  simp only [wcs, List.mem_flatMap] at hv
  obtain ⟨r, _, hv⟩ := hv
  simp at hv
  rcases hv with rfl | rfl <;> rfl

/-- The document's wire at R: room, and rows. -/
structure Rf (w : World) (B R : Nat) (room : Int) (qs : List Rw) : Prop where
  le : B ≤ R
  que : ∃ A c, w.heap[R]? = some (.cells #[.int .i64 room, .slice A qs.length c] 50 (0, 0)) ∧ Que w B 63 2 A qs.length c (wcs qs)
theorem Rf.ft {w w' : World} {B B' R : Nat} {T : List TypeId} {room : Int} {qs : List Rw} (h : Rf w B R room qs) (hc : Ft B' T w w') (h1 : 50 ∉ T) (h2 : 63 ∉ T) : Rf w' B R room qs := by
  obtain ⟨A, c, h4, h5⟩ := h.que
  exact ⟨h.le, ⟨A, c, hc.keep h4 h1, h5.ft hc h2⟩⟩
theorem Rf.step {w w' : World} {B R : Nat} {room : Int} {qs : List Rw} (h : Rf w B R room qs) (hb : Below w.heap.size w w') : Rf w' B R room qs := h.ft (B' := 0) (T := []) (Ft.of_below hb) (by simp) (by simp)
theorem Rf.lt {w : World} {B R : Nat} {room : Int} {qs : List Rw} (h : Rf w B R room qs) : R < w.heap.size := by
  obtain ⟨A, c, h4, _⟩ := h.que
  exact (Array.getElem?_eq_some_iff.1 h4).1
theorem Rf.cells {w : World} {B R : Nat} {room : Int} {qs : List Rw} (h : Rf w B R room qs) : ∃ A c, w.cell? ⟨R, 0, none⟩ = some (.int .i64 room) ∧ w.cell? ⟨R, 1, none⟩ = some (.slice A qs.length c) ∧ w.frozen? ⟨R, 1, none⟩ = false ∧ Que w B 63 2 A qs.length c (wcs qs) := by
  obtain ⟨A, c, h4, h5⟩ := h.que
  exact ⟨A, c, by simp [World.cell?, h4], by simp [World.cell?, h4], by simp [World.frozen?, h4], h5⟩
theorem Rf.turn {w x : World} {B R : Nat} {room : Int} {qs qs' : List Rw} {A' : Option Addr} {c' : Nat} (h : Rf w B R room qs) (hc : Ft B [63] w x) (hq : Que x B 63 2 A' qs'.length c' (wcs qs')) :
    Rf (x.setCell ⟨R, 1, none⟩ (.slice A' qs'.length c')) B R room qs' ∧ Ft B [50, 63] w (x.setCell ⟨R, 1, none⟩ (.slice A' qs'.length c')) := by
  obtain ⟨A, c, h4, _⟩ := h.que
  have h6 := hc.keep h4 (by decide)
  have hft : Ft B [50] x (x.setCell ⟨R, 1, none⟩ (.slice A' qs'.length c')) := Ft.of_ch ((Ch.refl [R] x).setCell (by simp) _) (fun y hy _ => by simp at hy; subst hy; exact ⟨h.le, _, _, _, h6, by simp⟩)
  refine ⟨⟨h.le, ⟨A', c', ?_, hq.ft hft (by decide)⟩⟩, (hc.mono (Nat.le_refl _) (by simp)).trans (hft.mono (Nat.le_refl _) (by simp))⟩
  rw [heap_setCell_same _ _ _ _ _ _ h6]
  rfl
theorem Que.holds {w : World} {B n c size : Nat} {A : Option Addr} {e : TypeId} {xs : List Value} (h : Que w B e size A n c xs) : ∃ g, Holds w g A xs := by
  rcases h.2 with ⟨rfl, rfl, _⟩ | ⟨g, o, cur, rfl, _, h3, _, _, _, h7⟩
  · have : xs = [] := List.eq_nil_of_length_eq_zero (by rw [h.1]; simp)
    subst this
    exact ⟨0, Holds.nil _ _ _⟩
  · exact ⟨g, fun _ => ⟨(Array.getElem?_eq_some_iff.1 h3).1, o, rfl, fun j u hu => by simp [World.cell?, h3, h7 j u hu]⟩⟩

theorem refnew_on {w : World} {room : Int} (hr : room ≤ 9223372036854775807) : Calls Try.prog 11 #[.int .i64 room] w fun e w' => e = .returned (.pointer (some ⟨w.heap.size, 0, none⟩)) ∧ Rf w' w.heap.size w.heap.size (max room 1) [] ∧ Below w.heap.size w w' := by
  obtain ⟨p, hp⟩ : ∃ p : Int, (if room < 1 then 1 else room) = p := ⟨_, rfl⟩
  have HP : Hid (p = max room 1) := by
    show _ = _
    split at hp <;> omega
  rw [← HP.out]
  go_enter Try.func11, Try.ntmps11
  go_wp2
  go_ret
  exact ⟨rfl, ⟨Nat.le_refl _, ⟨none, 0, heap_alloc_new w _, Que.nil _ _ _ _⟩⟩, new_below _ _⟩

/-- What stays known in Put, behind k rows. -/
structure Pr (w : World) (B R : Nat) (room : Int) (qs ns : List Rw) (F : Nat) (fk fn : Int) (y : UInt8) (V : Value) (L : Option Addr) (m c : Nat) (ps : List (List UInt8)) (k : Nat) (x : World) : Prop where
  rf : Rf x B R room (qs ++ ns.take k)
  texts : x.ownsRow w.heap.size 9 1 (.slice L m c) m (scs ps)
  box : x.heap[F]? = some (.cells #[.int .i64 fk, .int .i64 fn, .int .u8 (y.toNat : Int), V] 40 (0, 0))
  ft : Ft B [50, 63] w x
theorem Pr.step {w x x' : World} {B R F m c k : Nat} {room fk fn : Int} {qs ns : List Rw} {y : UInt8} {V : Value} {L : Option Addr} {ps : List (List UInt8)} (p : Pr w B R room qs ns F fk fn y V L m c ps k x) (hb : Below x.heap.size x x') : Pr w B R room qs ns F fk fn y V L m c ps k x' :=
  ⟨p.rf.step hb, own_ft (B := 0) (T := []) p.texts (Ft.of_below hb) (by simp), (hb.block F (Array.getElem?_eq_some_iff.1 p.box).1).trans p.box, p.ft.step hb⟩
theorem Pr.cells {w x : World} {B R F m c k : Nat} {room fk fn : Int} {qs ns : List Rw} {y : UInt8} {V : Value} {L : Option Addr} {ps : List (List UInt8)} (p : Pr w B R room qs ns F fk fn y V L m c ps k x) :
    x.cell? ⟨F, 0, none⟩ = some (.int .i64 fk) ∧ x.cell? ⟨F, 1, none⟩ = some (.int .i64 fn) := by
  have hb := p.box
  exact ⟨by simp [World.cell?, hb], by simp [World.cell?, hb]⟩
theorem Pr.next {w x x2 : World} {B R F m c k n : Nat} {room fk fn : Int} {qs ns : List Rw} {y : UInt8} {V : Value} {L A' : Option Addr} {c' : Nat} {ps : List (List UInt8)} {r : Rw} (p : Pr w B R room qs ns F fk fn y V L m c ps k x)
    (hr : ns[k]? = some r) (hn : qs.length + k = n) (ho : x2.ownsRow x.heap.size 63 2 (.slice A' (n + 1) c') (n + 1) (wcs (qs ++ ns.take k) ++ [.string ⟨r.l.toArray⟩, .int .i64 (r.h : Int)])) (hb : Below x.heap.size x x2) (hB : B ≤ x.heap.size) :
    Pr w B R room qs ns F fk fn y V L m c ps (k + 1) (x2.setCell ⟨R, 1, none⟩ (.slice A' (n + 1) c')) := by
  have hkl : k < ns.length := by
    rcases Nat.lt_or_ge k ns.length with h | h
    · exact h
    · rw [List.getElem?_eq_none h] at hr; cases hr
  have htk : qs ++ ns.take (k + 1) = (qs ++ ns.take k) ++ [r] := by rw [List.take_add_one, hr, List.append_assoc]; rfl
  have hlen : (qs ++ ns.take (k + 1)).length = n + 1 := by rw [List.length_append, List.length_take]; omega
  obtain ⟨h1, h2⟩ := p.rf.turn (x := x2) (qs' := qs ++ ns.take (k + 1)) (A' := A') (c' := c') (Ft.of_below hb) (by
    rw [hlen, htk, wcs_append]
    exact Que.of_own (own_mono ho hB))
  rw [hlen] at h1 h2
  exact ⟨h1, own_ft p.texts h2 (by decide), h2.keep p.box (by decide), p.ft.trans h2⟩

/-- What the document's Put answers. -/
def RefPutPost (w : World) (B R : Nat) (room : Int) (qs : List Rw) (f : Fl) (l : List UInt8) (e : Ending) (w' : World) : Prop :=
  e = .returned (.int .i64 (putM room qs f l).2) ∧ Rf w' B R room (putM room qs f l).1 ∧ Ft B [50, 63] w w'

set_option maxRecDepth 100000 in
set_option maxHeartbeats 3200000 in
theorem refput_on {w : World} {B R : Nat} {room : Int} {qs : List Rw} {l : List UInt8} {f : Fl} (hw : Rf w B R room qs) (hBw : B ≤ w.heap.size) (hql : qs.length ≤ 1000000) (hle : l.length ≤ 1000000) :
    Calls Try.prog 18 #[.pointer (some ⟨R, 0, none⟩), .string ⟨l.toArray⟩, f.str] w (RefPutPost w B R room qs f l) := by
  obtain ⟨i0, hi, hz0, hz1, hz2⟩ := info_parts info_refrow
  have HW := Lib.hid hw
  have HOf : Hid (∀ w : World, Calls Try.prog 15 #[f.str, .string ⟨l.toArray⟩] w (TextsPost w (f.of l))) := fun w => refof_on hle
  have HPM : Hid (putM room qs f l = if room < ((qs.length + (f.of l).length : Nat) : Int) then (qs, 5) else (qs ++ f.rows l, 0)) := rfl
  have HNS : Hid (f.rows l = (f.of l).map fun b => ⟨b, f.held⟩) := rfl
  have HHD : Hid (f.held = if f.k = 3 then min f.n.toNat 16 else 0) := rfl
  have HK3 : Hid (f.k = 3 → (f.of l).length = 1) := by
    intro h
    unfold Fl.of
    rw [h]
    rfl
  have HL2 := Lib.hid (f.of_len l)
  clear hw
  generalize f.rows l = ns at *
  generalize f.of l = ps at *
  generalize f.held = hd at *
  cases f with
  | mk fk fn y fb =>
  simp only [Fl.str] at *
  have HX1 := Lib.hid (heap_alloc_new w (.cells #[.int .i64 fk, .int .i64 fn, .int .u8 (y.toNat : Int), .string ⟨fb.toArray⟩] 40))
  have HB1 := Lib.hid (new_below w (.cells #[.int .i64 fk, .int .i64 fn, .int .u8 (y.toNat : Int), .string ⟨fb.toArray⟩] 40))
  go_enter Try.func18, Try.ntmps18
  go_wp2_with fail
  refine (HOf.out _).mono ?_
  rintro e x1 ⟨V, cv, rfl, hown, hb⟩
  have HBX : Hid (Below w.heap.size w x1) := HB1.out.trans (hb.mono HB1.out.size)
  obtain ⟨m, hm⟩ : ∃ m, ps.length = m := ⟨_, rfl⟩
  have HM := Lib.hid hm
  have P1 : Hid (Pr w B R room qs ns w.heap.size fk fn y (.string ⟨fb.toArray⟩) V m cv ps 0 x1) := by
    refine ⟨?_, ?_, ?_, Ft.of_below HBX.out⟩
    · rw [List.take_zero, List.append_nil]; exact HW.out.step HBX.out
    · rw [← hm]; exact own_mono hown HB1.out.size
    · exact (hb.block _ (by simp)).trans HX1.out
  have hm2 : m ≤ 2 := by have := HL2.out; omega
  rw [hm]
  clear hown hb HX1 HB1 HOf hm HBX
  generalize hF : w.heap.size = F at *
  have HFE := Lib.hid hF
  clear hF
  go_upto_region 2 with fail
  replace P1 := Lib.hid (P1.out.step (drew_below x1))
  obtain ⟨Ad, cd, d0, d1, f1, hq⟩ := P1.out.rf.cells
  rw [List.take_zero, List.append_nil] at d1
  clear hq
  refine region_plan [(true, 0), (true, 1), (true, 2), (true, 3), (true, 4), (true, 5), (true, 6), (true, 7), (true, 8), (true, 9), (true, 10), (true, 11), (true, 12)]
    (fun x => x.cell? ⟨R, 0, none⟩ = some (.int .i64 room) ∧ x.cell? ⟨R, 1, none⟩ = some (.slice Ad qs.length cd)) (by kernel_rfl) (by kernel_rfl) (by kernel_rfl) rfl ⟨d0, d1⟩ ?_
  generalize x1.drew = x2 at *
  have hwr : IntKind.i64.wrap ((qs.length : Int) + (m : Int)) = (qs.length : Int) + (m : Int) := by
    rw [IntKind.wrap_i64]
    omega
  iterate 13 (refine Plan.take (v := ?_) rfl (by rfl) ?_ ?_; rotate_left 1; (focus (intro x hx; go_simp <;> (first | with_reducible rfl | rw [if_pos (by omega)]))); simp only [Act.put, List.setIfInBounds_toArray, List.set_cons_zero, List.set_cons_succ])
  refine Plan.done ?_
  by_cases hfull : room < ((qs.length + m : Nat) : Int)
  · have hcmp : room < (qs.length : Int) + (m : Int) := by omega
    go_wp2
    go_ret
    unfold RefPutPost
    rw [HPM.out, HM.out, if_pos hfull]
    refine ⟨rfl, ?_, P1.out.ft⟩
    have := P1.out.rf
    rw [List.take_zero, List.append_nil] at this
    exact this
  · have hcmp : ¬ room < (qs.length : Int) + (m : Int) := by omega
    have HFit : Hid (((qs.length + m : Nat) : Int) ≤ room) := by show _ ≤ _; omega
    clear d0 d1 f1 hwr
    go_wp2
    clear hcmp
    go_loopw [8] (fun i wr => ∃ k : Nat, k ≤ m ∧ i = .int .i64 k ∧ Hid (Pr w B R room qs ns F fk fn y (.string ⟨fb.toArray⟩) V m cv ps k wr)) (fun i _ => m - (intOf i).toNat)
    case atStart => exact ⟨0, Nat.zero_le _, rfl, P1⟩
    case round =>
      obtain ⟨k, hk, rfl, HP⟩ := hrel
      clear P1
      by_cases hlt : k < m
      · have hlt' : (k : Int) < (m : Int) := by omega
        obtain ⟨p, hpk⟩ : ∃ p, ps[k]? = some p := ⟨_, List.getElem?_eq_getElem (by rw [HM.out]; exact hlt)⟩
        obtain ⟨gv, hgv⟩ : ∃ gv, V = some ⟨gv, 0, none⟩ := by
          rcases HP.out.texts.2 with ⟨_, h0⟩ | ⟨g, cap, cur, hV, _⟩
          · omega
          · injection hV with hV
            exact ⟨g, hV⟩
        subst hgv
        have hcell : wr.cell? ⟨gv, k, none⟩ = some (.string ⟨p.toArray⟩) := by rw [HP.out.texts.cellAt k (by omega), scs_get hpk]
        have HR : Hid (ns[k]? = some ⟨p, hd⟩) := by show _ = _; rw [HNS.out, List.getElem?_map, hpk]; rfl
        obtain ⟨q0, q1⟩ := HP.out.cells
        clear hpk
        have hX : Hid (wr.heap.size < (wr.alloc (.cells #[.string ⟨p.toArray⟩, .int .i64 (hd : Int)] 63)).heap.size) := by show _ < _; simp
        have HBX := Lib.hid (new_below wr (.cells #[.string ⟨p.toArray⟩, .int .i64 (hd : Int)] 63))
        have HXC := Lib.hid (heap_alloc_new wr (.cells #[.string ⟨p.toArray⟩, .int .i64 (hd : Int)] 63))
        by_cases hk3 : fk = 3
        · have hm1 : m = 1 := by rw [← HM.out]; exact HK3.out hk3
          have hk0 : k = 0 := by omega
          subst hk3 hk0
          obtain ⟨pp, hpp⟩ : ∃ p : Nat, (if fn < 0 then 0 else fn) = (p : Int) := ⟨fn.toNat, by split <;> omega⟩
          have hqq : (if (16 : Int) < (pp : Int) then (16 : Int) else (pp : Int)) = (hd : Int) := by
            rw [HHD.out, if_pos rfl]
            split at hpp <;> split <;> omega
          have q0' : (wr.alloc (.cells #[.string ⟨p.toArray⟩, .int .i64 0] 63)).cell? ⟨F, 0, none⟩ = some (.int .i64 3) := ((new_below wr _).cell (p := ⟨F, 0, none⟩) (World.block_lt_of_cell? _ _ q0)).trans q0
          have q1' : (wr.alloc (.cells #[.string ⟨p.toArray⟩, .int .i64 0] 63)).cell? ⟨F, 1, none⟩ = some (.int .i64 fn) := ((new_below wr _).cell (p := ⟨F, 1, none⟩) (World.block_lt_of_cell? _ _ q1)).trans q1
          clear q0 q1 hm1
          go_upto_region 10 with fail
          replace HP := Lib.hid ((HP.out.step HBX.out).step (drew_below _))
          have hxc : (wr.alloc (.cells #[.string ⟨p.toArray⟩, .int .i64 (hd : Int)] 63)).drew.heap[wr.heap.size]? = some (.cells #[.string ⟨p.toArray⟩, .int .i64 (hd : Int)] 63) := HXC.out
          have c0 : (wr.alloc (.cells #[.string ⟨p.toArray⟩, .int .i64 (hd : Int)] 63)).drew.cell? ⟨wr.heap.size, 0, none⟩ = some (.string ⟨p.toArray⟩) := by
            show World.cell? (wr.alloc _) _ = _
            rw [cell_alloc_new wr _ _ _ _ rfl]
            rfl
          have c1 : (wr.alloc (.cells #[.string ⟨p.toArray⟩, .int .i64 (hd : Int)] 63)).drew.cell? ⟨wr.heap.size, 1, none⟩ = some (.int .i64 (hd : Int)) := by
            show World.cell? (wr.alloc _) _ = _
            rw [cell_alloc_new wr _ _ _ _ rfl]
            rfl
          have HXL : Hid (wr.heap.size < (wr.alloc (.cells #[.string ⟨p.toArray⟩, .int .i64 (hd : Int)] 63)).drew.heap.size) := hX.out
          obtain ⟨Aq, cq, _, d1, f1, hq⟩ := HP.out.rf.cells
          have hnsl : ns.length = m := by rw [HNS.out, List.length_map, HM.out]
          have hlen : (qs ++ ns.take 0).length = qs.length + 0 := by rw [List.length_append, List.length_take]; omega
          rw [hlen] at d1 hq
          obtain ⟨gq, hgq⟩ := hq.holds
          have HGQ := Lib.hid hgq
          have HQL := Lib.hid hq.1
          clear hq hgq hlen hnsl hxc HXC HBX hX hcell
          generalize hnn : qs.length + 0 = nn at *
          have HNN := Lib.hid hnn
          clear hnn
          refine region_last 12 (.take 0 (.take 2 (.take 3 (.take 4 (.take 5 (.take 7 (.two 1 (.two 6 (.one 8 (.one 9 (.one 10 (.one 11 (.one 12 .done))))) 8 (.one 6 (.one 9 (.one 10 (.one 11 (.one 12 .done)))))) 8 (.one 1 (.one 6 (.one 9 (.one 10 (.one 11 (.one 12 .done)))))))))))))
            (fun x => x.cell? ⟨R, 1, none⟩ = some (.slice Aq nn cq) ∧ x.cell? ⟨wr.heap.size, 0, none⟩ = some (.string ⟨p.toArray⟩) ∧ x.cell? ⟨wr.heap.size, 1, none⟩ = some (.int .i64 (hd : Int)))
            (by kernel_rfl) (by kernel_rfl) (by kernel_rfl) (by kernel_rfl) ⟨d1, c0, c1⟩ ?_
          generalize wr.heap.size = X at *
          generalize (wr.alloc (.cells #[.string ⟨p.toArray⟩, .int .i64 (hd : Int)] 63)).drew = x3 at *
          have HS3 : Hid (∀ y, Below x3.heap.size x3 y → y.cell? ⟨R, 1, none⟩ = some (.slice Aq nn cq) ∧ y.cell? ⟨X, 0, none⟩ = some (.string ⟨p.toArray⟩) ∧ y.cell? ⟨X, 1, none⟩ = some (.int .i64 (hd : Int))) :=
            fun y hb => ⟨(hb.cell (p := ⟨R, 1, none⟩) HP.out.rf.lt).trans d1, (hb.cell (p := ⟨X, 0, none⟩) HXL.out).trans c0, (hb.cell (p := ⟨X, 1, none⟩) HXL.out).trans c1⟩
          have HFr : Hid (∀ y, Below x3.heap.size x3 y → y.frozen? ⟨R, 1, none⟩ = false) := fun y hb => (hb.frozen (p := ⟨R, 1, none⟩) HP.out.rf.lt).trans f1
          clear d1 c0 c1 f1 HXL
          iterate 6 (refine TreeL.take (v := ?_) (by kernel_rfl) rfl (by rfl) ?_ ?_; rotate_left 1; (focus (intro x hx; go_simp <;> (first | with_reducible rfl | rw [if_pos (by omega)]))); simp only [Act.put, List.setIfInBounds_toArray, List.set_cons_zero, List.set_cons_succ])
          have HB0 : Hid (Below x3.heap.size x3 x3) := Below.refl _ _
          refine TreeL.two (by decide) (by decide) rfl rfl (fun K hK => ?_) (fun K hK => ?_)
          · go_simp
            have HB1 : Hid (Below x3.heap.size x3 (x3.alloc (.cells #[] 63))) := HB0.out.trans ((new_below x3 _).mono HB0.out.size)
            have HEo : Hid ((x3.alloc (.cells #[] 63)).ownsRow x3.heap.size 63 2 (.slice (some ⟨x3.heap.size, 0, none⟩) 0 0) 0 []) := World.ownsRow_made x3 #[] 0 HB0.out.size (Nat.zero_le _) rfl
            refine hK.out _ _ _ (fun x hx => hx) (HS3.out _ HB1.out) ?_
            clear hK K
            have HEl : Hid (x3.heap.size < (x3.alloc (.cells #[] 63)).heap.size) := by show _ < _; simp
            generalize x3.alloc (.cells #[] 63) = y1 at *
            refine TreeL.two (by decide) (by decide) rfl rfl (fun K hK => ?_) (fun K hK => ?_)
            · rw [if_pos (by rfl)]
              refine wp_append_wide (.tmp 50) (.tmp 54) 48 rfl x3.heap.size 63 i0 (.agg #[.string ⟨#[]⟩, .int .i64 0]) 2 24 Try.underlying48 hi hz0 hz1 hz2 rfl (by decide) (.slice (some ⟨x3.heap.size, 0, none⟩) 0 0) 0 [] rfl HEo.out gq Aq nn cq (wcs (qs ++ ns.take 0)) rfl HQL.out (HGQ.out.keep (Ch.of_below HB1.out) (by simp)) (wcs_one _) (by have := HNN.out; unfold maxLen; omega) (by have := HNN.out; omega) HB1.out.size ?_
              intro A6 c6 y2 hown6 hgr6
              simp only [Nat.zero_add, List.nil_append] at hown6 ⊢
              have HOw := Lib.hid hown6
              have HB2 : Hid (Below x3.heap.size x3 y2) := HB1.out.trans ((Below.refl _ _).grown hgr6 HB1.out.size (fun g hg => (HEo.out.lt g hg).1))
              refine hK.out _ _ _ (fun x hx => hx) (HS3.out _ HB2.out) ?_
              clear hK K hown6 hgr6 HEo
              simp only [Act.put, List.setIfInBounds_toArray, List.set_cons_zero, List.set_cons_succ]
              refine TreeL.one (by decide) rfl (fun K hK => ?_)
              go_simp
              have HB3 : Hid (Below x3.heap.size x3 (y2.alloc (.cells #[.string ⟨p.toArray⟩, .int .i64 (hd : Int)] 63))) := HB2.out.trans ((new_below y2 _).mono HB2.out.size)
              have HSr : Hid (Holds (y2.alloc (.cells #[.string ⟨p.toArray⟩, .int .i64 (hd : Int)] 63)) y2.heap.size (some ⟨y2.heap.size, 0, none⟩) [.string ⟨p.toArray⟩, .int .i64 (hd : Int)]) := Holds.of_row (cs := [.string ⟨p.toArray⟩, .int .i64 (hd : Int)]) (heap_alloc_new y2 _)
              have HSl : Hid (y2.heap.size < (y2.alloc (.cells #[.string ⟨p.toArray⟩, .int .i64 (hd : Int)] 63)).heap.size) := by show _ < _; simp
              replace HOw := Lib.hid (HOw.out.alloc (.cells #[.string ⟨p.toArray⟩, .int .i64 (hd : Int)] 63))
              refine hK.out _ _ _ (fun x hx => hx) (HS3.out _ HB3.out) ?_
              clear hK K
              generalize y2.heap.size = Sb at *
              generalize y2.alloc (.cells #[.string ⟨p.toArray⟩, .int .i64 (hd : Int)] 63) = y3 at *
              refine TreeL.one (by decide) rfl (fun K hK => ?_)
              rw [if_pos (by rfl)]
              refine wp_append_wide (.tmp 55) (.tmp 57) 48 rfl x3.heap.size 63 i0 (.agg #[.string ⟨#[]⟩, .int .i64 0]) 2 24 Try.underlying48 hi hz0 hz1 hz2 rfl (by decide) (.slice A6 nn c6) nn (wcs (qs ++ ns.take 0)) rfl HOw.out Sb (some ⟨Sb, 0, none⟩) 1 1 [.string ⟨p.toArray⟩, .int .i64 (hd : Int)] rfl rfl HSr.out (by simp [Value.oneCell']) (by have := HNN.out; unfold maxLen; omega) (by have := HNN.out; omega) HB3.out.size ?_
              intro A7 c7 y7 hown7 hgr7
              have HB7 : Hid (Below x3.heap.size x3 y7) := HB3.out.trans ((Below.refl _ _).grown hgr7 HB3.out.size (fun g hg => (HOw.out.lt g hg).1))
              have H7 := Lib.hid (HP.out.next HR.out HNN.out hown7 HB7.out (by have := HP.out.ft.size; have := HFE.out; omega))
              refine hK.out _ _ _ (fun x hx => hx) (HS3.out _ HB7.out) ?_
              clear hK K hown7 hgr7 HOw HSr HB3
              simp only [Act.put, List.setIfInBounds_toArray, List.set_cons_zero, List.set_cons_succ]
              refine TreeL.one (by decide) rfl (fun K hK => ?_)
              go_simp
              refine hK.out _ _ _ (fun x hx => hx) (HS3.out _ HB7.out) ?_
              clear hK K
              refine TreeL.one (by decide) rfl (fun K hK => ?_)
              go_simp
              refine hK.out _ _ _ (fun x hx => hx) (HS3.out _ HB7.out) ?_
              clear hK K
              refine TreeL.last rfl (fun K hK => ?_)
              obtain ⟨g1, g2, g3⟩ := HS3.out _ HB7.out
              have g4 := HFr.out _ HB7.out
              go_simp
              refine hK.out _ _ (NoPanic.normal ?_)
              clear hK K g1 g2 g3 g4
              go_wp2
              go_simp
              exact ⟨⟨0 + 1, by omega, by omega, H7⟩, by simp [intOf]; omega⟩
            · go_simp
              have HB2 : Hid (Below x3.heap.size x3 (y1.alloc (.cells #[.string ⟨p.toArray⟩, .int .i64 (hd : Int)] 63))) := HB1.out.trans ((new_below y1 _).mono HB1.out.size)
              have HSr : Hid (Holds (y1.alloc (.cells #[.string ⟨p.toArray⟩, .int .i64 (hd : Int)] 63)) y1.heap.size (some ⟨y1.heap.size, 0, none⟩) [.string ⟨p.toArray⟩, .int .i64 (hd : Int)]) := Holds.of_row (cs := [.string ⟨p.toArray⟩, .int .i64 (hd : Int)]) (heap_alloc_new y1 _)
              have HSl : Hid (y1.heap.size < (y1.alloc (.cells #[.string ⟨p.toArray⟩, .int .i64 (hd : Int)] 63)).heap.size) := by show _ < _; simp
              replace HEo := Lib.hid (HEo.out.alloc (.cells #[.string ⟨p.toArray⟩, .int .i64 (hd : Int)] 63))
              have hEne : x3.heap.size ≠ y1.heap.size := by have := (HEl.out); omega
              refine hK.out _ _ _ (fun x hx => hx) (HS3.out _ HB2.out) ?_
              clear hK K
              generalize y1.heap.size = Sb at *
              generalize y1.alloc (.cells #[.string ⟨p.toArray⟩, .int .i64 (hd : Int)] 63) = y2 at *
              refine TreeL.one (by decide) rfl (fun K hK => ?_)
              rw [if_pos (by rfl)]
              refine wp_append_wide (.tmp 50) (.tmp 54) 48 rfl x3.heap.size 63 i0 (.agg #[.string ⟨#[]⟩, .int .i64 0]) 2 24 Try.underlying48 hi hz0 hz1 hz2 rfl (by decide) (.slice (some ⟨x3.heap.size, 0, none⟩) 0 0) 0 [] rfl HEo.out gq Aq nn cq (wcs (qs ++ ns.take 0)) rfl HQL.out (HGQ.out.keep (Ch.of_below HB2.out) (by simp)) (wcs_one _) (by have := HNN.out; unfold maxLen; omega) (by have := HNN.out; omega) HB2.out.size ?_
              intro A6 c6 y3 hown6 hgr6
              simp only [Nat.zero_add, List.nil_append] at hown6 ⊢
              have HOw := Lib.hid hown6
              have HB3 : Hid (Below x3.heap.size x3 y3) := HB2.out.trans ((Below.refl _ _).grown hgr6 HB2.out.size (fun g hg => (HEo.out.lt g hg).1))
              replace HSr := Lib.hid (HSr.out.keep (F := [x3.heap.size]) ⟨hgr6.os, hgr6.tape, hgr6.output, hgr6.size, fun j hj hm => hgr6.block j hj (by simp [Value.ownBlock]; simpa using hm)⟩ (fun _ => by simp; omega))
              refine hK.out _ _ _ (fun x hx => hx) (HS3.out _ HB3.out) ?_
              clear hK K hown6 hgr6 HEo
              simp only [Act.put, List.setIfInBounds_toArray, List.set_cons_zero, List.set_cons_succ]
              refine TreeL.one (by decide) rfl (fun K hK => ?_)
              rw [if_pos (by rfl)]
              refine wp_append_wide (.tmp 55) (.tmp 57) 48 rfl x3.heap.size 63 i0 (.agg #[.string ⟨#[]⟩, .int .i64 0]) 2 24 Try.underlying48 hi hz0 hz1 hz2 rfl (by decide) (.slice A6 nn c6) nn (wcs (qs ++ ns.take 0)) rfl HOw.out Sb (some ⟨Sb, 0, none⟩) 1 1 [.string ⟨p.toArray⟩, .int .i64 (hd : Int)] rfl rfl HSr.out (by simp [Value.oneCell']) (by have := HNN.out; unfold maxLen; omega) (by have := HNN.out; omega) HB3.out.size ?_
              intro A7 c7 y7 hown7 hgr7
              have HB7 : Hid (Below x3.heap.size x3 y7) := HB3.out.trans ((Below.refl _ _).grown hgr7 HB3.out.size (fun g hg => (HOw.out.lt g hg).1))
              have H7 := Lib.hid (HP.out.next HR.out HNN.out hown7 HB7.out (by have := HP.out.ft.size; have := HFE.out; omega))
              refine hK.out _ _ _ (fun x hx => hx) (HS3.out _ HB7.out) ?_
              clear hK K hown7 hgr7 HOw HSr HB3
              simp only [Act.put, List.setIfInBounds_toArray, List.set_cons_zero, List.set_cons_succ]
              refine TreeL.one (by decide) rfl (fun K hK => ?_)
              go_simp
              refine hK.out _ _ _ (fun x hx => hx) (HS3.out _ HB7.out) ?_
              clear hK K
              refine TreeL.one (by decide) rfl (fun K hK => ?_)
              go_simp
              refine hK.out _ _ _ (fun x hx => hx) (HS3.out _ HB7.out) ?_
              clear hK K
              refine TreeL.last rfl (fun K hK => ?_)
              obtain ⟨g1, g2, g3⟩ := HS3.out _ HB7.out
              have g4 := HFr.out _ HB7.out
              go_simp
              refine hK.out _ _ (NoPanic.normal ?_)
              clear hK K g1 g2 g3 g4
              go_wp2
              go_simp
              exact ⟨⟨0 + 1, by omega, by omega, H7⟩, by simp [intOf]; omega⟩
          · go_simp
            have HB1 : Hid (Below x3.heap.size x3 (x3.alloc (.cells #[.string ⟨p.toArray⟩, .int .i64 (hd : Int)] 63))) := HB0.out.trans ((new_below x3 _).mono HB0.out.size)
            have HSr : Hid (Holds (x3.alloc (.cells #[.string ⟨p.toArray⟩, .int .i64 (hd : Int)] 63)) x3.heap.size (some ⟨x3.heap.size, 0, none⟩) [.string ⟨p.toArray⟩, .int .i64 (hd : Int)]) := Holds.of_row (cs := [.string ⟨p.toArray⟩, .int .i64 (hd : Int)]) (heap_alloc_new x3 _)
            have HSl : Hid (x3.heap.size < (x3.alloc (.cells #[.string ⟨p.toArray⟩, .int .i64 (hd : Int)] 63)).heap.size) := by show _ < _; simp
            refine hK.out _ _ _ (fun x hx => hx) (HS3.out _ HB1.out) ?_
            clear hK K
            generalize x3.alloc (.cells #[.string ⟨p.toArray⟩, .int .i64 (hd : Int)] 63) = y1 at *
            refine TreeL.one (by decide) rfl (fun K hK => ?_)
            go_simp
            have HB2 : Hid (Below x3.heap.size x3 (y1.alloc (.cells #[] 63))) := HB1.out.trans ((new_below y1 _).mono HB1.out.size)
            have HEo : Hid ((y1.alloc (.cells #[] 63)).ownsRow x3.heap.size 63 2 (.slice (some ⟨y1.heap.size, 0, none⟩) 0 0) 0 []) := World.ownsRow_made y1 #[] 0 HB1.out.size (Nat.zero_le _) rfl
            refine hK.out _ _ _ (fun x hx => hx) (HS3.out _ HB2.out) ?_
            clear hK K
            have hEne : y1.heap.size ≠ x3.heap.size := by have := HSl.out; omega
            replace HSr := Lib.hid (HSr.out.keep (Ch.of_below (new_below y1 (.cells #[] 63))) (by simp))
            generalize y1.heap.size = E at *
            generalize y1.alloc (.cells #[] 63) = y2 at *
            refine TreeL.one (by decide) rfl (fun K hK => ?_)
            rw [if_pos (by rfl)]
            refine wp_append_wide (.tmp 50) (.tmp 54) 48 rfl x3.heap.size 63 i0 (.agg #[.string ⟨#[]⟩, .int .i64 0]) 2 24 Try.underlying48 hi hz0 hz1 hz2 rfl (by decide) (.slice (some ⟨E, 0, none⟩) 0 0) 0 [] rfl HEo.out gq Aq nn cq (wcs (qs ++ ns.take 0)) rfl HQL.out (HGQ.out.keep (Ch.of_below HB2.out) (by simp)) (wcs_one _) (by have := HNN.out; unfold maxLen; omega) (by have := HNN.out; omega) HB2.out.size ?_
            intro A6 c6 y3 hown6 hgr6
            simp only [Nat.zero_add, List.nil_append] at hown6 ⊢
            have HOw := Lib.hid hown6
            have HB3 : Hid (Below x3.heap.size x3 y3) := HB2.out.trans ((Below.refl _ _).grown hgr6 HB2.out.size (fun g hg => (HEo.out.lt g hg).1))
            replace HSr := Lib.hid (HSr.out.keep (F := [E]) ⟨hgr6.os, hgr6.tape, hgr6.output, hgr6.size, fun j hj hm => hgr6.block j hj (by simp [Value.ownBlock]; simpa using hm)⟩ (fun _ => by simp; omega))
            refine hK.out _ _ _ (fun x hx => hx) (HS3.out _ HB3.out) ?_
            clear hK K hown6 hgr6 HEo
            simp only [Act.put, List.setIfInBounds_toArray, List.set_cons_zero, List.set_cons_succ]
            refine TreeL.one (by decide) rfl (fun K hK => ?_)
            rw [if_pos (by rfl)]
            refine wp_append_wide (.tmp 55) (.tmp 57) 48 rfl x3.heap.size 63 i0 (.agg #[.string ⟨#[]⟩, .int .i64 0]) 2 24 Try.underlying48 hi hz0 hz1 hz2 rfl (by decide) (.slice A6 nn c6) nn (wcs (qs ++ ns.take 0)) rfl HOw.out x3.heap.size (some ⟨x3.heap.size, 0, none⟩) 1 1 [.string ⟨p.toArray⟩, .int .i64 (hd : Int)] rfl rfl HSr.out (by simp [Value.oneCell']) (by have := HNN.out; unfold maxLen; omega) (by have := HNN.out; omega) HB3.out.size ?_
            intro A7 c7 y7 hown7 hgr7
            have HB7 : Hid (Below x3.heap.size x3 y7) := HB3.out.trans ((Below.refl _ _).grown hgr7 HB3.out.size (fun g hg => (HOw.out.lt g hg).1))
            have H7 := Lib.hid (HP.out.next HR.out HNN.out hown7 HB7.out (by have := HP.out.ft.size; have := HFE.out; omega))
            refine hK.out _ _ _ (fun x hx => hx) (HS3.out _ HB7.out) ?_
            clear hK K hown7 hgr7 HOw HSr HB3
            simp only [Act.put, List.setIfInBounds_toArray, List.set_cons_zero, List.set_cons_succ]
            refine TreeL.one (by decide) rfl (fun K hK => ?_)
            go_simp
            refine hK.out _ _ _ (fun x hx => hx) (HS3.out _ HB7.out) ?_
            clear hK K
            refine TreeL.one (by decide) rfl (fun K hK => ?_)
            go_simp
            refine hK.out _ _ _ (fun x hx => hx) (HS3.out _ HB7.out) ?_
            clear hK K
            refine TreeL.last rfl (fun K hK => ?_)
            obtain ⟨g1, g2, g3⟩ := HS3.out _ HB7.out
            have g4 := HFr.out _ HB7.out
            go_simp
            refine hK.out _ _ (NoPanic.normal ?_)
            clear hK K g1 g2 g3 g4
            go_wp2
            go_simp
            exact ⟨⟨0 + 1, by omega, by omega, H7⟩, by simp [intOf]; omega⟩
        · have hb3 : (fk == 3) = false := by simpa using hk3
          have hd0 : hd = 0 := by rw [HHD.out, if_neg hk3]
          subst hd0
          have q0' : (wr.alloc (.cells #[.string ⟨p.toArray⟩, .int .i64 0] 63)).cell? ⟨F, 0, none⟩ = some (.int .i64 fk) := ((new_below wr _).cell (p := ⟨F, 0, none⟩) (World.block_lt_of_cell? _ _ q0)).trans q0
          clear q0 q1
          go_upto_region 10 with fail
          replace HP := Lib.hid ((HP.out.step HBX.out).step (drew_below _))
          have hxc : (wr.alloc (.cells #[.string ⟨p.toArray⟩, .int .i64 0] 63)).drew.heap[wr.heap.size]? = some (.cells #[.string ⟨p.toArray⟩, .int .i64 0] 63) := HXC.out
          have c0 : (wr.alloc (.cells #[.string ⟨p.toArray⟩, .int .i64 0] 63)).drew.cell? ⟨wr.heap.size, 0, none⟩ = some (.string ⟨p.toArray⟩) := by
            show World.cell? (wr.alloc _) _ = _
            rw [cell_alloc_new wr _ _ _ _ rfl]
            rfl
          have c1 : (wr.alloc (.cells #[.string ⟨p.toArray⟩, .int .i64 0] 63)).drew.cell? ⟨wr.heap.size, 1, none⟩ = some (.int .i64 0) := by
            show World.cell? (wr.alloc _) _ = _
            rw [cell_alloc_new wr _ _ _ _ rfl]
            rfl
          have HXL : Hid (wr.heap.size < (wr.alloc (.cells #[.string ⟨p.toArray⟩, .int .i64 0] 63)).drew.heap.size) := hX.out
          obtain ⟨Aq, cq, _, d1, f1, hq⟩ := HP.out.rf.cells
          have hnsl : ns.length = m := by rw [HNS.out, List.length_map, HM.out]
          have hlen : (qs ++ ns.take k).length = qs.length + k := by rw [List.length_append, List.length_take]; omega
          rw [hlen] at d1 hq
          obtain ⟨gq, hgq⟩ := hq.holds
          have HGQ := Lib.hid hgq
          have HQL := Lib.hid hq.1
          clear hq hgq hlen hnsl hxc HXC HBX hX hcell
          generalize hnn : qs.length + k = nn at *
          have HNN := Lib.hid hnn
          clear hnn
          refine region_last 12 (.take 0 (.take 2 (.take 3 (.take 4 (.take 5 (.take 7 (.two 1 (.two 6 (.one 8 (.one 9 (.one 10 (.one 11 (.one 12 .done))))) 8 (.one 6 (.one 9 (.one 10 (.one 11 (.one 12 .done)))))) 8 (.one 1 (.one 6 (.one 9 (.one 10 (.one 11 (.one 12 .done)))))))))))))
            (fun x => x.cell? ⟨R, 1, none⟩ = some (.slice Aq nn cq) ∧ x.cell? ⟨wr.heap.size, 0, none⟩ = some (.string ⟨p.toArray⟩) ∧ x.cell? ⟨wr.heap.size, 1, none⟩ = some (.int .i64 0))
            (by kernel_rfl) (by kernel_rfl) (by kernel_rfl) (by kernel_rfl) ⟨d1, c0, c1⟩ ?_
          generalize wr.heap.size = X at *
          generalize (wr.alloc (.cells #[.string ⟨p.toArray⟩, .int .i64 0] 63)).drew = x3 at *
          have HS3 : Hid (∀ y, Below x3.heap.size x3 y → y.cell? ⟨R, 1, none⟩ = some (.slice Aq nn cq) ∧ y.cell? ⟨X, 0, none⟩ = some (.string ⟨p.toArray⟩) ∧ y.cell? ⟨X, 1, none⟩ = some (.int .i64 0)) :=
            fun y hb => ⟨(hb.cell (p := ⟨R, 1, none⟩) HP.out.rf.lt).trans d1, (hb.cell (p := ⟨X, 0, none⟩) HXL.out).trans c0, (hb.cell (p := ⟨X, 1, none⟩) HXL.out).trans c1⟩
          have HFr : Hid (∀ y, Below x3.heap.size x3 y → y.frozen? ⟨R, 1, none⟩ = false) := fun y hb => (hb.frozen (p := ⟨R, 1, none⟩) HP.out.rf.lt).trans f1
          clear d1 c0 c1 f1 HXL
          iterate 6 (refine TreeL.take (v := ?_) (by kernel_rfl) rfl (by rfl) ?_ ?_; rotate_left 1; (focus (intro x hx; go_simp <;> (first | with_reducible rfl | rw [if_pos (by omega)]))); simp only [Act.put, List.setIfInBounds_toArray, List.set_cons_zero, List.set_cons_succ])
          have HB0 : Hid (Below x3.heap.size x3 x3) := Below.refl _ _
          refine TreeL.two (by decide) (by decide) rfl rfl (fun K hK => ?_) (fun K hK => ?_)
          · go_simp
            have HB1 : Hid (Below x3.heap.size x3 (x3.alloc (.cells #[] 63))) := HB0.out.trans ((new_below x3 _).mono HB0.out.size)
            have HEo : Hid ((x3.alloc (.cells #[] 63)).ownsRow x3.heap.size 63 2 (.slice (some ⟨x3.heap.size, 0, none⟩) 0 0) 0 []) := World.ownsRow_made x3 #[] 0 HB0.out.size (Nat.zero_le _) rfl
            refine hK.out _ _ _ (fun x hx => hx) (HS3.out _ HB1.out) ?_
            clear hK K
            have HEl : Hid (x3.heap.size < (x3.alloc (.cells #[] 63)).heap.size) := by show _ < _; simp
            generalize x3.alloc (.cells #[] 63) = y1 at *
            refine TreeL.two (by decide) (by decide) rfl rfl (fun K hK => ?_) (fun K hK => ?_)
            · rw [if_pos (by rfl)]
              refine wp_append_wide (.tmp 50) (.tmp 54) 48 rfl x3.heap.size 63 i0 (.agg #[.string ⟨#[]⟩, .int .i64 0]) 2 24 Try.underlying48 hi hz0 hz1 hz2 rfl (by decide) (.slice (some ⟨x3.heap.size, 0, none⟩) 0 0) 0 [] rfl HEo.out gq Aq nn cq (wcs (qs ++ ns.take k)) rfl HQL.out (HGQ.out.keep (Ch.of_below HB1.out) (by simp)) (wcs_one _) (by have := HNN.out; unfold maxLen; omega) (by have := HNN.out; omega) HB1.out.size ?_
              intro A6 c6 y2 hown6 hgr6
              simp only [Nat.zero_add, List.nil_append] at hown6 ⊢
              have HOw := Lib.hid hown6
              have HB2 : Hid (Below x3.heap.size x3 y2) := HB1.out.trans ((Below.refl _ _).grown hgr6 HB1.out.size (fun g hg => (HEo.out.lt g hg).1))
              refine hK.out _ _ _ (fun x hx => hx) (HS3.out _ HB2.out) ?_
              clear hK K hown6 hgr6 HEo
              simp only [Act.put, List.setIfInBounds_toArray, List.set_cons_zero, List.set_cons_succ]
              refine TreeL.one (by decide) rfl (fun K hK => ?_)
              go_simp
              have HB3 : Hid (Below x3.heap.size x3 (y2.alloc (.cells #[.string ⟨p.toArray⟩, .int .i64 0] 63))) := HB2.out.trans ((new_below y2 _).mono HB2.out.size)
              have HSr : Hid (Holds (y2.alloc (.cells #[.string ⟨p.toArray⟩, .int .i64 0] 63)) y2.heap.size (some ⟨y2.heap.size, 0, none⟩) [.string ⟨p.toArray⟩, .int .i64 0]) := Holds.of_row (cs := [.string ⟨p.toArray⟩, .int .i64 0]) (heap_alloc_new y2 _)
              have HSl : Hid (y2.heap.size < (y2.alloc (.cells #[.string ⟨p.toArray⟩, .int .i64 0] 63)).heap.size) := by show _ < _; simp
              replace HOw := Lib.hid (HOw.out.alloc (.cells #[.string ⟨p.toArray⟩, .int .i64 0] 63))
              refine hK.out _ _ _ (fun x hx => hx) (HS3.out _ HB3.out) ?_
              clear hK K
              generalize y2.heap.size = Sb at *
              generalize y2.alloc (.cells #[.string ⟨p.toArray⟩, .int .i64 0] 63) = y3 at *
              refine TreeL.one (by decide) rfl (fun K hK => ?_)
              rw [if_pos (by rfl)]
              refine wp_append_wide (.tmp 55) (.tmp 57) 48 rfl x3.heap.size 63 i0 (.agg #[.string ⟨#[]⟩, .int .i64 0]) 2 24 Try.underlying48 hi hz0 hz1 hz2 rfl (by decide) (.slice A6 nn c6) nn (wcs (qs ++ ns.take k)) rfl HOw.out Sb (some ⟨Sb, 0, none⟩) 1 1 [.string ⟨p.toArray⟩, .int .i64 0] rfl rfl HSr.out (by simp [Value.oneCell']) (by have := HNN.out; unfold maxLen; omega) (by have := HNN.out; omega) HB3.out.size ?_
              intro A7 c7 y7 hown7 hgr7
              have HB7 : Hid (Below x3.heap.size x3 y7) := HB3.out.trans ((Below.refl _ _).grown hgr7 HB3.out.size (fun g hg => (HOw.out.lt g hg).1))
              have H7 := Lib.hid (HP.out.next HR.out HNN.out hown7 HB7.out (by have := HP.out.ft.size; have := HFE.out; omega))
              refine hK.out _ _ _ (fun x hx => hx) (HS3.out _ HB7.out) ?_
              clear hK K hown7 hgr7 HOw HSr HB3
              simp only [Act.put, List.setIfInBounds_toArray, List.set_cons_zero, List.set_cons_succ]
              refine TreeL.one (by decide) rfl (fun K hK => ?_)
              go_simp
              refine hK.out _ _ _ (fun x hx => hx) (HS3.out _ HB7.out) ?_
              clear hK K
              refine TreeL.one (by decide) rfl (fun K hK => ?_)
              go_simp
              refine hK.out _ _ _ (fun x hx => hx) (HS3.out _ HB7.out) ?_
              clear hK K
              refine TreeL.last rfl (fun K hK => ?_)
              obtain ⟨g1, g2, g3⟩ := HS3.out _ HB7.out
              have g4 := HFr.out _ HB7.out
              go_simp
              refine hK.out _ _ (NoPanic.normal ?_)
              clear hK K g1 g2 g3 g4
              go_wp2
              go_simp
              exact ⟨⟨k + 1, by omega, by omega, H7⟩, by simp [intOf]; omega⟩
            · go_simp
              have HB2 : Hid (Below x3.heap.size x3 (y1.alloc (.cells #[.string ⟨p.toArray⟩, .int .i64 0] 63))) := HB1.out.trans ((new_below y1 _).mono HB1.out.size)
              have HSr : Hid (Holds (y1.alloc (.cells #[.string ⟨p.toArray⟩, .int .i64 0] 63)) y1.heap.size (some ⟨y1.heap.size, 0, none⟩) [.string ⟨p.toArray⟩, .int .i64 0]) := Holds.of_row (cs := [.string ⟨p.toArray⟩, .int .i64 0]) (heap_alloc_new y1 _)
              have HSl : Hid (y1.heap.size < (y1.alloc (.cells #[.string ⟨p.toArray⟩, .int .i64 0] 63)).heap.size) := by show _ < _; simp
              replace HEo := Lib.hid (HEo.out.alloc (.cells #[.string ⟨p.toArray⟩, .int .i64 0] 63))
              have hEne : x3.heap.size ≠ y1.heap.size := by have := (HEl.out); omega
              refine hK.out _ _ _ (fun x hx => hx) (HS3.out _ HB2.out) ?_
              clear hK K
              generalize y1.heap.size = Sb at *
              generalize y1.alloc (.cells #[.string ⟨p.toArray⟩, .int .i64 0] 63) = y2 at *
              refine TreeL.one (by decide) rfl (fun K hK => ?_)
              rw [if_pos (by rfl)]
              refine wp_append_wide (.tmp 50) (.tmp 54) 48 rfl x3.heap.size 63 i0 (.agg #[.string ⟨#[]⟩, .int .i64 0]) 2 24 Try.underlying48 hi hz0 hz1 hz2 rfl (by decide) (.slice (some ⟨x3.heap.size, 0, none⟩) 0 0) 0 [] rfl HEo.out gq Aq nn cq (wcs (qs ++ ns.take k)) rfl HQL.out (HGQ.out.keep (Ch.of_below HB2.out) (by simp)) (wcs_one _) (by have := HNN.out; unfold maxLen; omega) (by have := HNN.out; omega) HB2.out.size ?_
              intro A6 c6 y3 hown6 hgr6
              simp only [Nat.zero_add, List.nil_append] at hown6 ⊢
              have HOw := Lib.hid hown6
              have HB3 : Hid (Below x3.heap.size x3 y3) := HB2.out.trans ((Below.refl _ _).grown hgr6 HB2.out.size (fun g hg => (HEo.out.lt g hg).1))
              replace HSr := Lib.hid (HSr.out.keep (F := [x3.heap.size]) ⟨hgr6.os, hgr6.tape, hgr6.output, hgr6.size, fun j hj hm => hgr6.block j hj (by simp [Value.ownBlock]; simpa using hm)⟩ (fun _ => by simp; omega))
              refine hK.out _ _ _ (fun x hx => hx) (HS3.out _ HB3.out) ?_
              clear hK K hown6 hgr6 HEo
              simp only [Act.put, List.setIfInBounds_toArray, List.set_cons_zero, List.set_cons_succ]
              refine TreeL.one (by decide) rfl (fun K hK => ?_)
              rw [if_pos (by rfl)]
              refine wp_append_wide (.tmp 55) (.tmp 57) 48 rfl x3.heap.size 63 i0 (.agg #[.string ⟨#[]⟩, .int .i64 0]) 2 24 Try.underlying48 hi hz0 hz1 hz2 rfl (by decide) (.slice A6 nn c6) nn (wcs (qs ++ ns.take k)) rfl HOw.out Sb (some ⟨Sb, 0, none⟩) 1 1 [.string ⟨p.toArray⟩, .int .i64 0] rfl rfl HSr.out (by simp [Value.oneCell']) (by have := HNN.out; unfold maxLen; omega) (by have := HNN.out; omega) HB3.out.size ?_
              intro A7 c7 y7 hown7 hgr7
              have HB7 : Hid (Below x3.heap.size x3 y7) := HB3.out.trans ((Below.refl _ _).grown hgr7 HB3.out.size (fun g hg => (HOw.out.lt g hg).1))
              have H7 := Lib.hid (HP.out.next HR.out HNN.out hown7 HB7.out (by have := HP.out.ft.size; have := HFE.out; omega))
              refine hK.out _ _ _ (fun x hx => hx) (HS3.out _ HB7.out) ?_
              clear hK K hown7 hgr7 HOw HSr HB3
              simp only [Act.put, List.setIfInBounds_toArray, List.set_cons_zero, List.set_cons_succ]
              refine TreeL.one (by decide) rfl (fun K hK => ?_)
              go_simp
              refine hK.out _ _ _ (fun x hx => hx) (HS3.out _ HB7.out) ?_
              clear hK K
              refine TreeL.one (by decide) rfl (fun K hK => ?_)
              go_simp
              refine hK.out _ _ _ (fun x hx => hx) (HS3.out _ HB7.out) ?_
              clear hK K
              refine TreeL.last rfl (fun K hK => ?_)
              obtain ⟨g1, g2, g3⟩ := HS3.out _ HB7.out
              have g4 := HFr.out _ HB7.out
              go_simp
              refine hK.out _ _ (NoPanic.normal ?_)
              clear hK K g1 g2 g3 g4
              go_wp2
              go_simp
              exact ⟨⟨k + 1, by omega, by omega, H7⟩, by simp [intOf]; omega⟩
          · go_simp
            have HB1 : Hid (Below x3.heap.size x3 (x3.alloc (.cells #[.string ⟨p.toArray⟩, .int .i64 0] 63))) := HB0.out.trans ((new_below x3 _).mono HB0.out.size)
            have HSr : Hid (Holds (x3.alloc (.cells #[.string ⟨p.toArray⟩, .int .i64 0] 63)) x3.heap.size (some ⟨x3.heap.size, 0, none⟩) [.string ⟨p.toArray⟩, .int .i64 0]) := Holds.of_row (cs := [.string ⟨p.toArray⟩, .int .i64 0]) (heap_alloc_new x3 _)
            have HSl : Hid (x3.heap.size < (x3.alloc (.cells #[.string ⟨p.toArray⟩, .int .i64 0] 63)).heap.size) := by show _ < _; simp
            refine hK.out _ _ _ (fun x hx => hx) (HS3.out _ HB1.out) ?_
            clear hK K
            generalize x3.alloc (.cells #[.string ⟨p.toArray⟩, .int .i64 0] 63) = y1 at *
            refine TreeL.one (by decide) rfl (fun K hK => ?_)
            go_simp
            have HB2 : Hid (Below x3.heap.size x3 (y1.alloc (.cells #[] 63))) := HB1.out.trans ((new_below y1 _).mono HB1.out.size)
            have HEo : Hid ((y1.alloc (.cells #[] 63)).ownsRow x3.heap.size 63 2 (.slice (some ⟨y1.heap.size, 0, none⟩) 0 0) 0 []) := World.ownsRow_made y1 #[] 0 HB1.out.size (Nat.zero_le _) rfl
            refine hK.out _ _ _ (fun x hx => hx) (HS3.out _ HB2.out) ?_
            clear hK K
            have hEne : y1.heap.size ≠ x3.heap.size := by have := HSl.out; omega
            replace HSr := Lib.hid (HSr.out.keep (Ch.of_below (new_below y1 (.cells #[] 63))) (by simp))
            generalize y1.heap.size = E at *
            generalize y1.alloc (.cells #[] 63) = y2 at *
            refine TreeL.one (by decide) rfl (fun K hK => ?_)
            rw [if_pos (by rfl)]
            refine wp_append_wide (.tmp 50) (.tmp 54) 48 rfl x3.heap.size 63 i0 (.agg #[.string ⟨#[]⟩, .int .i64 0]) 2 24 Try.underlying48 hi hz0 hz1 hz2 rfl (by decide) (.slice (some ⟨E, 0, none⟩) 0 0) 0 [] rfl HEo.out gq Aq nn cq (wcs (qs ++ ns.take k)) rfl HQL.out (HGQ.out.keep (Ch.of_below HB2.out) (by simp)) (wcs_one _) (by have := HNN.out; unfold maxLen; omega) (by have := HNN.out; omega) HB2.out.size ?_
            intro A6 c6 y3 hown6 hgr6
            simp only [Nat.zero_add, List.nil_append] at hown6 ⊢
            have HOw := Lib.hid hown6
            have HB3 : Hid (Below x3.heap.size x3 y3) := HB2.out.trans ((Below.refl _ _).grown hgr6 HB2.out.size (fun g hg => (HEo.out.lt g hg).1))
            replace HSr := Lib.hid (HSr.out.keep (F := [E]) ⟨hgr6.os, hgr6.tape, hgr6.output, hgr6.size, fun j hj hm => hgr6.block j hj (by simp [Value.ownBlock]; simpa using hm)⟩ (fun _ => by simp; omega))
            refine hK.out _ _ _ (fun x hx => hx) (HS3.out _ HB3.out) ?_
            clear hK K hown6 hgr6 HEo
            simp only [Act.put, List.setIfInBounds_toArray, List.set_cons_zero, List.set_cons_succ]
            refine TreeL.one (by decide) rfl (fun K hK => ?_)
            rw [if_pos (by rfl)]
            refine wp_append_wide (.tmp 55) (.tmp 57) 48 rfl x3.heap.size 63 i0 (.agg #[.string ⟨#[]⟩, .int .i64 0]) 2 24 Try.underlying48 hi hz0 hz1 hz2 rfl (by decide) (.slice A6 nn c6) nn (wcs (qs ++ ns.take k)) rfl HOw.out x3.heap.size (some ⟨x3.heap.size, 0, none⟩) 1 1 [.string ⟨p.toArray⟩, .int .i64 0] rfl rfl HSr.out (by simp [Value.oneCell']) (by have := HNN.out; unfold maxLen; omega) (by have := HNN.out; omega) HB3.out.size ?_
            intro A7 c7 y7 hown7 hgr7
            have HB7 : Hid (Below x3.heap.size x3 y7) := HB3.out.trans ((Below.refl _ _).grown hgr7 HB3.out.size (fun g hg => (HOw.out.lt g hg).1))
            have H7 := Lib.hid (HP.out.next HR.out HNN.out hown7 HB7.out (by have := HP.out.ft.size; have := HFE.out; omega))
            refine hK.out _ _ _ (fun x hx => hx) (HS3.out _ HB7.out) ?_
            clear hK K hown7 hgr7 HOw HSr HB3
            simp only [Act.put, List.setIfInBounds_toArray, List.set_cons_zero, List.set_cons_succ]
            refine TreeL.one (by decide) rfl (fun K hK => ?_)
            go_simp
            refine hK.out _ _ _ (fun x hx => hx) (HS3.out _ HB7.out) ?_
            clear hK K
            refine TreeL.one (by decide) rfl (fun K hK => ?_)
            go_simp
            refine hK.out _ _ _ (fun x hx => hx) (HS3.out _ HB7.out) ?_
            clear hK K
            refine TreeL.last rfl (fun K hK => ?_)
            obtain ⟨g1, g2, g3⟩ := HS3.out _ HB7.out
            have g4 := HFr.out _ HB7.out
            go_simp
            refine hK.out _ _ (NoPanic.normal ?_)
            clear hK K g1 g2 g3 g4
            go_wp2
            go_simp
            exact ⟨⟨k + 1, by omega, by omega, H7⟩, by simp [intOf]; omega⟩
      · have hkm : k = m := by omega
        subst hkm
        go_wp2
        go_ret
        unfold RefPutPost
        rw [HPM.out, HM.out, if_neg (by have := HFit.out; omega)]
        have h1 := HP.out.rf
        rw [List.take_of_length_le (by rw [HNS.out, List.length_map, HM.out]; exact Nat.le_refl _)] at h1
        exact ⟨rfl, h1, HP.out.ft⟩

end Go.Proofs.Ythpalepkilmpiaa
