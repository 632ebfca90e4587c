/-
  The document's master (lamplightref07.Master) in memory; New, closes, Missed, Next, as they stand: what they answer.
-/
import Derived.Test.YtoahjkdackccmaaMasJ
namespace Go.Proofs.Ytoahjkdackccmaa
set_option linter.unusedVariables false
set_option linter.unusedSimpArgs false
open Go.RowKit

def scs (q : List (List UInt8)) : List Value := q.map fun l => .string ⟨l.toArray⟩
theorem scs_length (q : List (List UInt8)) : (scs q).length = q.length := by simp [scs]
theorem scs_append (a b : List (List UInt8)) : scs (a ++ b) = scs a ++ scs b := by simp [scs]
theorem scs_drop (q : List (List UInt8)) (k : Nat) : scs (q.drop k) = (scs q).drop k := by simp [scs]
theorem scs_one (q : List (List UInt8)) : ∀ v ∈ scs q, v.oneCell' = true := by
  intro v hv
  simp only [scs, List.mem_map] at hv
  obtain ⟨l, _, rfl⟩ := hv
  rfl

abbrev rmcs (m : Ma) (V : Value) : Array Value := #[.int .u8 (m.addr : Int), .int .u8 (m.ses : Int), .int .i64 m.tries, .int .i64 (m.st : Int), .int .i64 (m.ep : Int), .int .u8 (m.sent : Int), .int .u8 (m.hrd : Int), V, .int .i64 (m.ms : Int)]
/-- The document's master at R, from B on. -/
structure Rm (w : World) (B R : Nat) (m : Ma) : Prop where
  le : B ≤ R
  at_ : ∃ A c, w.heap[R]? = some (.cells (rmcs m (.slice A m.q.length c)) 49 (0, 0)) ∧ Que w B 9 1 A m.q.length c (scs m.q)
theorem Rm.ft {w w' : World} {B B' R : Nat} {T : List TypeId} {m : Ma} (h : Rm w B R m) (hc : Ft B' T w w') (h1 : 49 ∉ T) (h2 : 9 ∉ T) : Rm w' B R m := by
  obtain ⟨A, c, k1, k2⟩ := h.at_
  exact ⟨h.le, A, c, hc.keep k1 h1, k2.ft hc h2⟩
theorem Rm.step {w w' : World} {B R : Nat} {m : Ma} (h : Rm w B R m) (hb : Below w.heap.size w w') : Rm w' B R m := h.ft (B' := 0) (T := []) (Ft.of_below hb) (by simp) (by simp)
theorem Rm.lt {w : World} {B R : Nat} {m : Ma} (h : Rm w B R m) : R < w.heap.size := by
  obtain ⟨A, c, k1, _⟩ := h.at_
  exact (Array.getElem?_eq_some_iff.1 k1).1
structure Rmc (w : World) (R : Nat) (m : Ma) (V : Value) : Prop where
  c0 : w.cell? ⟨R, 0, none⟩ = some (.int .u8 (m.addr : Int))
  c1 : w.cell? ⟨R, 1, none⟩ = some (.int .u8 (m.ses : Int))
  c2 : w.cell? ⟨R, 2, none⟩ = some (.int .i64 m.tries)
  c3 : w.cell? ⟨R, 3, none⟩ = some (.int .i64 (m.st : Int))
  c4 : w.cell? ⟨R, 4, none⟩ = some (.int .i64 (m.ep : Int))
  c5 : w.cell? ⟨R, 5, none⟩ = some (.int .u8 (m.sent : Int))
  c6 : w.cell? ⟨R, 6, none⟩ = some (.int .u8 (m.hrd : Int))
  c7 : w.cell? ⟨R, 7, none⟩ = some V
  c8 : w.cell? ⟨R, 8, none⟩ = some (.int .i64 (m.ms : Int))
  fz : ∀ i, w.frozen? ⟨R, i, none⟩ = false
theorem rmc_of {w : World} {R : Nat} {m : Ma} {V : Value} (h : w.heap[R]? = some (.cells (rmcs m V) 49 (0, 0))) : Rmc w R m V := by
  constructor
  all_goals first | (simp [World.cell?, h]; done) | (intro i; simp [World.frozen?, h])
theorem Rm.mc {w : World} {B R : Nat} {m : Ma} (h : Rm w B R m) : ∃ A c, Rmc w R m (.slice A m.q.length c) := by
  obtain ⟨A, c, k1, _⟩ := h.at_
  exact ⟨A, c, rmc_of k1⟩
theorem Rm.turn {w : World} {B R : Nat} {m : Ma} (h : Rm w B R m) (l : List (Nat × Value)) (m' : Ma) (hq : m'.q = m.q) (hc : ∀ V, setsA l (rmcs m V) = rmcs m' V) : Rm (sets R l w) B R m' ∧ Ft B [49] w (sets R l w) := by
  obtain ⟨A, c, k1, k2⟩ := h.at_
  obtain ⟨h1, h2⟩ := sets_row l k1
  have hft : Ft B [49] w (sets R l w) := Ft.of_ch h2 (fun y hy _ => by simp at hy; subst hy; exact ⟨h.le, _, _, _, k1, by simp⟩)
  rw [hc] at h1
  refine ⟨⟨h.le, A, c, ?_, ?_⟩, hft⟩
  · rw [hq]; exact h1
  · rw [hq]; exact k2.ft hft (by decide)
theorem Rm.turnq {w x : World} {B R : Nat} {m : Ma} {T : List TypeId} (h : Rm w B R m) (hx : Ft B T w x) (hT : 49 ∉ T) (l : List (Nat × Value)) (m' : Ma) {A' : Option Addr} {c' : Nat}
    (hq : Que x B 9 1 A' m'.q.length c' (scs m'.q)) (hc : ∀ V, setsA l (rmcs m V) = rmcs m' (.slice A' m'.q.length c')) : Rm (sets R l x) B R m' ∧ Ft B [49] x (sets R l x) := by
  obtain ⟨A, c, k0, _⟩ := h.at_
  have k1 := hx.keep k0 hT
  obtain ⟨h1, h2⟩ := sets_row l k1
  have hft : Ft B [49] x (sets R l x) := Ft.of_ch h2 (fun y hy _ => by simp at hy; subst hy; exact ⟨h.le, _, _, _, k1, by simp⟩)
  rw [hc] at h1
  exact ⟨⟨h.le, A', c', h1, hq.ft hft (by decide)⟩, hft⟩

theorem refnew_on {w : World} {a : Nat} {t : Int} : Calls Try.prog 12 #[.int .u8 (a : Int), .int .i64 t] w fun e w' => e = .returned (.pointer (some ⟨w.heap.size, 0, none⟩)) ∧ Rm w' w.heap.size w.heap.size (newM a t) ∧ Below w.heap.size w w' := by
  obtain ⟨p, hp⟩ : ∃ p : Int, (if t < 1 then 1 else t) = p := ⟨_, rfl⟩
  have HP : Hid (p = max t 1) := by
    show _ = _
    split at hp <;> omega
  unfold newM
  rw [← HP.out]
  go_enter Try.func12, Try.ntmps12
  go_wp2
  go_ret
  exact ⟨rfl, ⟨Nat.le_refl _, none, 0, heap_alloc_new w _, Que.nil _ _ _ _⟩, new_below _ _⟩

/-- Closed, in a state. -/
def clsM (m : Ma) (st : Nat) : Ma := { m with st := st, ses := nxt m.ses, q := [], ms := 0 }
theorem refcloses_on {w : World} {B R : Nat} {m : Ma} (h : Rm w B R m) (hs : 1 ≤ m.ses) (hs' : m.ses ≤ 255) (st : Nat) : Calls Try.prog 32 #[.pointer (some ⟨R, 0, none⟩), .int .i64 (st : Int)] w fun e w' => e = .returned (.tuple #[]) ∧ Rm w' B R (clsM m st) ∧ Ft B [49] w w' := by
  obtain ⟨A, c, hc⟩ := h.mc
  have c1 := hc.c1
  have f1 := hc.fz 1
  have c3 := hc.c3
  have f3 := hc.fz 3
  have c7 := hc.c7
  have f7 := hc.fz 7
  have c8 := hc.c8
  have f8 := hc.fz 8
  by_cases h255 : m.ses = 255
  · have h255' : (m.ses : Int) = 255 := by omega
    have hw : IntKind.u8.wrap ((m.ses : Int) + 1) = 0 := by rw [h255']; rfl
    have H := Lib.hid (h.turnq (T := []) (Ft.refl B [] w) (by simp) [(3, .int .i64 (st : Int)), (1, .int .u8 0), (1, .int .u8 1), (7, .slice none 0 0), (8, .int .i64 0)] (clsM m st) (A' := none) (c' := 0) (Que.nil _ _ _ _) (fun V => by simp [setsA, clsM, nxt, h255]))
    rw [h255'] at c1
    clear hc h h255' hw
    generalize clsM m st = mm at *
    go_enter Try.func32, Try.ntmps32
    go_wp2
    go_end0
    exact ⟨rfl, H.out⟩
  · have H := Lib.hid (h.turnq (T := []) (Ft.refl B [] w) (by simp) [(3, .int .i64 (st : Int)), (1, .int .u8 ((m.ses + 1 : Nat) : Int)), (7, .slice none 0 0), (8, .int .i64 0)] (clsM m st) (A' := none) (c' := 0) (Que.nil _ _ _ _) (fun V => by simp [setsA, clsM, nxt, h255]))
    obtain ⟨s', hs1⟩ : ∃ s', m.ses + 1 = s' := ⟨_, rfl⟩
    have hw : IntKind.u8.wrap ((m.ses : Int) + 1) = (s' : Int) := by rw [IntKind.wrap_u8]; omega
    have hw2 : (m.ses : Int) + 1 = (s' : Int) := by omega
    have hw3 : (s' : Int) % 256 = (s' : Int) := by omega
    have h0 : ((s' : Int) == 0) = false := by simp; omega
    rw [hs1] at H
    clear hc h hs1 h255
    generalize clsM m st = mm at *
    go_enter Try.func32, Try.ntmps32
    go_wp2
    go_end0
    exact ⟨rfl, H.out⟩

theorem refmissed_on {w : World} {B R N : Nat} {m : Ma} (h : Rm w B R m) (hN : m.Ok N) (hle : N ≤ 1000000) : Calls Try.prog 20 #[.pointer (some ⟨R, 0, none⟩)] w fun e w' => e = .returned (.bool (missedM m).2) ∧ Rm w' B R (missedM m).1 ∧ Ft B [49] w w' := by
  have HM : Hid (missedM m = if ((m.ms + 1 : Nat) : Int) < m.tries then ({ m with ms := m.ms + 1 }, false) else (clsM { m with ms := m.ms + 1 } 2, decide (m.st ≠ 2))) := rfl
  have hms := hN.ms
  have HS0 := Lib.hid hN.ses0
  have HS := Lib.hid hN.ses
  have H := Lib.hid (h.turn [(8, .int .i64 ((m.ms : Int) + 1))] { m with ms := m.ms + 1 } rfl (fun V => rfl))
  obtain ⟨A, c, hc⟩ := h.mc
  have c8 := hc.c8
  have f8 := hc.fz 8
  clear hc h hN
  generalize hr : missedM m = r at *
  clear hr
  go_enter Try.func20, Try.ntmps20
  go_upto_region 2 with fail
  obtain ⟨A1, cc1, hc1⟩ := H.out.1.mc
  have d8 := hc1.c8
  have d2 := hc1.c2
  have d3 := hc1.c3
  have H1 := Lib.hid (H.out.1.step (drew_below _))
  have H2 := Lib.hid (H.out.2.step (drew_below _))
  clear hc1 c8 f8 H
  simp only [sets, List.foldl] at d8 d2 d3 H1 H2
  generalize w.setCell ⟨R, 8, none⟩ (.int .i64 ((m.ms : Int) + 1)) = x at *
  generalize ((m.ms + 1 : Nat) : Int) = z at d8 HM
  refine region_plan [(true, 0), (true, 1), (true, 2), (true, 3), (true, 4), (true, 5), (true, 6), (true, 7), (true, 8)]
    (fun y => y.cell? ⟨R, 8, none⟩ = some (.int .i64 z) ∧ y.cell? ⟨R, 2, none⟩ = some (.int .i64 m.tries)) (by kernel_rfl) (by kernel_rfl) (by kernel_rfl) rfl ⟨d8, d2⟩ ?_
  iterate 9 (refine Plan.take (v := ?_) rfl (by rfl) ?_ ?_; rotate_left 1; (focus (intro x hx; go_simp <;> (first | with_reducible rfl | rw [if_pos (by omega)]))); simp only [Act.put, List.setIfInBounds_toArray, List.set_cons_zero, List.set_cons_succ])
  refine Plan.done ?_
  by_cases hlt : z < m.tries
  · have HR : Hid (r = ({ m with ms := m.ms + 1 }, false)) := by show _ = _; rw [HM.out, if_pos hlt]
    clear HM
    go_wp2
    go_ret
    rw [HR.out]
    exact ⟨rfl, H1.out, H2.out⟩
  · have HR : Hid (r = (clsM { m with ms := m.ms + 1 } 2, decide (m.st ≠ 2))) := by show _ = _; rw [HM.out, if_neg hlt]
    clear HM
    change x.drew.cell? _ = _ at d3
    generalize x.drew = y at *
    go_wp2_with fail
    refine (refcloses_on H1.out HS0.out HS.out 2).mono ?_
    rintro e y1 ⟨rfl, h1, h2⟩
    have K := Lib.hid h1
    have K2 := Lib.hid h2
    clear h1 h2
    by_cases hst : m.st = 2
    · have hst' : (m.st : Int) = 2 := by omega
      go_wp2
      go_ret
      rw [HR.out]
      exact ⟨by simp [hst], K.out, H2.out.trans K2.out⟩
    · have hst' : ((m.st : Int) != 2) = true := by simp; omega
      go_wp2
      go_ret
      rw [HR.out]
      exact ⟨by simp [hst], K.out, H2.out.trans K2.out⟩

end Go.Proofs.Ytoahjkdackccmaa
