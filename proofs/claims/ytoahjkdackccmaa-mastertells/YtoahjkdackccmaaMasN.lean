/-
  The document's Next, as it stands: what it answers.
-/
import Derived.Test.YtoahjkdackccmaaMasK
namespace Go.Proofs.Ytoahjkdackccmaa
set_option linter.unusedVariables false
set_option linter.unusedSimpArgs false
open Go.RowKit

theorem row_six {x : World} {X : Nat} {t : TypeId} {v0 v1 v2 v3 v4 v5 : Value} (h : x.heap[X]? = some (.cells #[v0, v1, v2, v3, v4, v5] t (0, 0))) :
    x.cell? ⟨X, 0, none⟩ = some v0 ∧ x.cell? ⟨X, 1, none⟩ = some v1 ∧ x.cell? ⟨X, 2, none⟩ = some v2 ∧ x.cell? ⟨X, 3, none⟩ = some v3 ∧ x.cell? ⟨X, 4, none⟩ = some v4 ∧ x.cell? ⟨X, 5, none⟩ = some v5 ∧
    x.frozen? ⟨X, 0, none⟩ = false ∧ x.frozen? ⟨X, 1, none⟩ = false ∧ x.frozen? ⟨X, 2, none⟩ = false ∧ x.frozen? ⟨X, 3, none⟩ = false ∧ x.frozen? ⟨X, 4, none⟩ = false ∧ x.frozen? ⟨X, 5, none⟩ = false := by
  simp [World.cell?, World.frozen?, h]
abbrev zer : Array Value := #[.int .u8 0, .int .u8 0, .int .u8 0, .int .u8 0, .int .u8 0, .string ⟨#[]⟩]

/-- While Next is at work: the master, f's row, the result's row. -/
structure Nr (w : World) (B R : Nat) (m : Ma) (S X : Nat) (f : Fr) (x : World) : Prop where
  rm : Rm x B R m
  box : Rx x X f
  res : x.heap[S]? = some (.cells zer 42 (0, 0))
  below : Below w.heap.size w x
  le : w.heap.size ≤ S
  lex : w.heap.size ≤ X
  ne : S ≠ X
theorem Nr.ner {w : World} {B R S X : Nat} {m : Ma} {f : Fr} {x : World} (h : Nr w B R m S X f x) : R ≠ X := by
  rintro rfl
  obtain ⟨A, c, k1, _⟩ := h.rm.at_
  have k2 : x.heap[R]? = _ := h.box
  rw [k1] at k2
  injection k2 with k2
  injection k2 with _ k2
  exact absurd k2 (by decide)
/-- Some of f's cells are set. -/
theorem Nr.turn {w : World} {B R S X : Nat} {m : Ma} {f : Fr} {x : World} (h : Nr w B R m S X f x) (l : List (Nat × Value)) (f' : Fr) (hc : setsA l (rcs f) = rcs f') : Nr w B R m S X f' (sets X l x) := by
  obtain ⟨h1, h2⟩ := sets_row l h.box
  have hft : Ft w.heap.size [42] x (sets X l x) := Ft.of_ch h2 (fun y hy _ => by simp at hy; subst hy; exact ⟨h.lex, _, _, _, h.box, by simp⟩)
  rw [hc] at h1
  exact ⟨h.rm.ft hft (by decide) (by decide), h1, (h2.block S (Array.getElem?_eq_some_iff.1 h.res).1 (by simp; exact h.ne)).trans h.res, h.below.trans (hft.below h.below.size), h.le, h.lex, h.ne⟩
/-- What is told. -/
theorem Nr.told {w : World} {B R S X : Nat} {m : Ma} {f : Fr} {x : World} (h : Nr w B R m S X f x) : (sets S [(0, .int .u8 (f.a : Int)), (1, .int .u8 (f.k : Int)), (2, .int .u8 (f.s : Int)), (3, .int .u8 (f.q : Int)), (4, .int .u8 (f.c : Int)), (5, .string ⟨f.b.toArray⟩)] x).heap[S]? = some (.cells (rcs f) 42 (0, 0)) ∧
    Below w.heap.size w (sets S [(0, .int .u8 (f.a : Int)), (1, .int .u8 (f.k : Int)), (2, .int .u8 (f.s : Int)), (3, .int .u8 (f.q : Int)), (4, .int .u8 (f.c : Int)), (5, .string ⟨f.b.toArray⟩)] x) := by
  obtain ⟨h1, h2⟩ := sets_row [(0, .int .u8 (f.a : Int)), (1, .int .u8 (f.k : Int)), (2, .int .u8 (f.s : Int)), (3, .int .u8 (f.q : Int)), (4, .int .u8 (f.c : Int)), (5, .string ⟨f.b.toArray⟩)] h.res
  exact ⟨h1.trans (by simp [setsA]), h.below.trans (h2.belowAt (by simp; exact h.le) h.below.size)⟩

set_option maxRecDepth 20000 in
set_option maxHeartbeats 1600000 in
theorem refnext_on {w : World} {B R : Nat} {m : Ma} (h : Rm w B R m) : Calls Try.prog 22 #[.pointer (some ⟨R, 0, none⟩)] w fun e w' => e = .returned (.agg (rcs (nextM m))) ∧ Below w.heap.size w w' := by
  have HM : Hid (nextM m = if m.st ≠ 1 then ⟨m.addr, 1, m.ses, 0, 0, []⟩ else match m.q with | [] => ⟨m.addr, 3, m.ses, m.sent, m.hrd, []⟩ | b :: _ => ⟨m.addr, 2, m.ses, m.sent, m.hrd, b⟩) := rfl
  have HB0 := Lib.hid (new_below w (.cells zer 42))
  have H0 := Lib.hid (h.step HB0.out)
  obtain ⟨A1, cc, hc⟩ := H0.out.mc
  have c0 := hc.c0
  have c1 := hc.c1
  clear hc h
  generalize nextM m = r at *
  go_enter Try.func22, Try.ntmps22
  go_upto_region 1 with fail
  refine region_plan [(true, 0), (true, 1), (true, 2), (true, 3), (true, 4), (true, 5), (true, 6), (true, 7), (true, 8), (false, 9), (false, 10)]
    (fun y => y.cell? ⟨R, 0, none⟩ = some (.int .u8 (m.addr : Int)) ∧ y.cell? ⟨R, 1, none⟩ = some (.int .u8 (m.ses : Int))) (by kernel_rfl) (by kernel_rfl) (by kernel_rfl) rfl ⟨c0, c1⟩ ?_
  have HBD : Hid (Below w.heap.size w (w.alloc (.cells zer 42)).drew) := HB0.out.trans ((drew_below _).mono HB0.out.size)
  have HMD := Lib.hid (H0.out.step (drew_below _))
  have HS0 : Hid ((w.alloc (.cells zer 42)).drew.heap.size = w.heap.size + 1) := by show _ = _; simp
  have HX0 : Hid ((w.alloc (.cells zer 42)).drew.heap[w.heap.size]? = some (.cells zer 42 (0, 0))) := heap_alloc_new w _
  clear HB0 H0 c0 c1
  generalize (w.alloc (.cells zer 42)).drew = x at *
  iterate 9 (refine Plan.take (v := ?_) rfl (by rfl) ?_ ?_; rotate_left 1; (focus (intro x hx; go_simp <;> (first | with_reducible rfl | rw [if_pos (by omega)]))); simp only [Act.put, List.setIfInBounds_toArray, List.set_cons_zero, List.set_cons_succ])
  refine Plan.loud rfl (fun K hK => ?_)
  go_simp
  have hbA := new_below x (.cells zer 42)
  obtain ⟨_, _, hcA⟩ := (HMD.out.step hbA).mc
  refine hK.out _ _ _ (fun x hx => hx) ⟨hcA.c0, hcA.c1⟩ ?_
  clear hK K hcA hbA
  refine Plan.loud rfl (fun K hK => ?_)
  go_simp
  have N1 : Hid (Nr w B R m w.heap.size x.heap.size ⟨m.addr, 1, m.ses, 0, 0, []⟩ (x.alloc (.cells #[.int .u8 (m.addr : Int), .int .u8 1, .int .u8 (m.ses : Int), .int .u8 0, .int .u8 0, .string ⟨#[]⟩] 42))) := by
    have hb := new_below x (.cells #[.int .u8 (m.addr : Int), .int .u8 1, .int .u8 (m.ses : Int), .int .u8 0, .int .u8 0, .string ⟨#[]⟩] 42)
    exact ⟨HMD.out.step hb, heap_alloc_new x _, (hb.block _ (Array.getElem?_eq_some_iff.1 HX0.out).1).trans HX0.out, HBD.out.trans (hb.mono HBD.out.size), Nat.le_refl _, HBD.out.size, by rw [HS0.out]; omega⟩
  obtain ⟨_, _, hcA⟩ := N1.out.rm.mc
  refine hK.out _ _ _ (fun x hx => hx) ⟨hcA.c0, hcA.c1⟩ ?_
  clear hK K hcA HX0 HMD HBD HS0
  generalize x.alloc (.cells #[.int .u8 (m.addr : Int), .int .u8 1, .int .u8 (m.ses : Int), .int .u8 0, .int .u8 0, .string ⟨#[]⟩] 42) = x1 at *
  generalize x.heap.size = X at *
  obtain ⟨S, hS⟩ : ∃ S, S = w.heap.size := ⟨_, rfl⟩
  rw [← hS] at N1 ⊢
  clear hS
  refine Plan.done ?_
  obtain ⟨A1, cc1, hcA⟩ := N1.out.rm.mc
  have c3 := hcA.c3
  by_cases hst : m.st = 1
  · have hst' : (m.st : Int) = 1 := by omega
    rw [hst'] at c3
    rw [if_neg (by omega)] at HM
    have c5 := hcA.c5
    have c6 := hcA.c6
    obtain ⟨p0, p1, p2, p3, p4, p5, s0, s1, s2, s3, s4, s5⟩ := row_six N1.out.box
    have hne := N1.out.ner
    have hne' := hne.symm
    have N2 := Lib.hid (N1.out.turn [(1, .int .u8 3), (3, .int .u8 (m.sent : Int)), (4, .int .u8 (m.hrd : Int))] ⟨m.addr, 3, m.ses, m.sent, m.hrd, []⟩ (by simp [setsA]))
    clear hcA N1
    go_upto_region 7 with fail
    clear c3 c5 c6 p0 p1 p2 p3 p4 p5 s0 s1 s2 s3 s4 s5
    simp only [sets, List.foldl_cons, List.foldl_nil] at N2
    generalize ((x1.setCell ⟨X, 1, none⟩ (.int .u8 3)).setCell ⟨X, 3, none⟩ (.int .u8 (m.sent : Int))).setCell ⟨X, 4, none⟩ (.int .u8 (m.hrd : Int)) = x2 at *
    obtain ⟨A2, cc2, k1, k2⟩ := N2.out.rm.at_
    have c7 := (rmc_of k1).c7
    cases hq : m.q with
    | nil =>
      rw [hq] at HM c7
      simp only [List.length_nil] at HM c7
      obtain ⟨p0, p1, p2, p3, p4, p5, -⟩ := row_six N2.out.box
      obtain ⟨-, -, -, -, -, -, s0, s1, s2, s3, s4, s5⟩ := row_six N2.out.res
      obtain ⟨q0, q1, q2, q3, q4, q5, -⟩ := row_six N2.out.res
      have HT := Lib.hid N2.out.told
      clear k1 k2 hq
      go_wp2
      refine bodyPost_ret (results_row rfl _ _ S 42 _ _ rfl HT.out.1 ref_struct ref_size) rfl ?_
      rw [HM.out]
      exact ⟨rfl, HT.out.2⟩
    | cons b t =>
      rw [hq] at HM
      simp only at HM
      have hpos : 0 < m.q.length := by rw [hq, List.length_cons]; omega
      obtain ⟨g, o, hA, _, hgl, _, hcell, _⟩ := k2.at hpos
      have hb0 := hcell 0 (.string ⟨b.toArray⟩) (by rw [hq]; rfl)
      rw [Nat.add_zero] at hb0
      subst hA
      have hpos' : (0 : Int) < (m.q.length : Int) := by omega
      have hcap := k2.cap.1
      have N3 := Lib.hid (N2.out.turn [(1, .int .u8 2), (5, .string ⟨b.toArray⟩)] ⟨m.addr, 2, m.ses, m.sent, m.hrd, b⟩ (by simp [setsA]))
      obtain ⟨p0, p1, p2, p3, p4, p5, s0, s1, s2, s3, s4, s5⟩ := row_six N2.out.box
      have hgx : ¬ g = X := by
        rintro rfl
        obtain ⟨_, _, hh⟩ : ∃ cs fz, x2.heap[g]? = some (.cells cs 9 fz) := by
          rcases k2.2 with ⟨hn, _⟩ | ⟨g', o', cur, he, _, h3, _⟩
          · cases hn
          · injection he with he
            injection he with he
            subst he
            exact ⟨_, _, h3⟩
        have k3 : x2.heap[g]? = _ := N2.out.box
        rw [hh] at k3
        injection k3 with k3
        injection k3 with _ k3
        exact absurd k3 (by decide)
      have hgx' : ¬ X = g := fun e => hgx e.symm
      generalize m.q.length = ql at *
      clear k1 k2 hq hcell
      go_upto_region 10 with fail
      clear c7 p0 p1 p2 p3 p4 p5 s0 s1 s2 s3 s4 s5 hb0
      simp only [sets, List.foldl_cons, List.foldl_nil] at N3
      generalize (x2.setCell ⟨X, 1, none⟩ (.int .u8 2)).setCell ⟨X, 5, none⟩ (.string ⟨b.toArray⟩) = x3 at *
      obtain ⟨p0, p1, p2, p3, p4, p5, -⟩ := row_six N3.out.box
      obtain ⟨q0, q1, q2, q3, q4, q5, s0, s1, s2, s3, s4, s5⟩ := row_six N3.out.res
      have HT := Lib.hid N3.out.told
      go_wp2
      refine bodyPost_ret (results_row rfl _ _ S 42 _ _ rfl HT.out.1 ref_struct ref_size) rfl ?_
      rw [HM.out]
      exact ⟨rfl, HT.out.2⟩
  · have hst' : ((m.st : Int) != 1) = true := by simp; omega
    rw [if_pos hst] at HM
    obtain ⟨p0, p1, p2, p3, p4, p5, -⟩ := row_six N1.out.box
    obtain ⟨q0, q1, q2, q3, q4, q5, s0, s1, s2, s3, s4, s5⟩ := row_six N1.out.res
    have HT := Lib.hid N1.out.told
    clear hcA
    go_wp2
    refine bodyPost_ret (results_row rfl _ _ S 42 _ _ rfl HT.out.1 ref_struct ref_size) rfl ?_
    rw [HM.out]
    exact ⟨rfl, HT.out.2⟩

end Go.Proofs.Ytoahjkdackccmaa
