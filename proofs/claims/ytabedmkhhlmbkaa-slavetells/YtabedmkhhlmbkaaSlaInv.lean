/-
  As long as a session lasts commands come in order, each once, and what is told is heard in order, each once, whatever is lost, and comes twice: the bits are enough, for the wires keep their order.
-/
import Derived.Test.YtabedmkhhlmbkaaSlaMath
namespace Go.Proofs.Ytabedmkhhlmbkaa
set_option linter.unusedVariables false
set_option linter.unusedSimpArgs false

/-- What the slave does with a frame of its session. -/
theorem take_in (a c n : Nat) (p : List UInt8) (x : Nat × Nat × Bool) : takeS ⟨3, 1, a, n, p⟩ (dfr x) = ((cmdS (gotS ⟨3, 1, a, n, p⟩ (x.2.1 % 2)) (dfr x)).1, ansS (cmdS (gotS ⟨3, 1, a, n, p⟩ (x.2.1 % 2)) (dfr x)).1, (cmdS (gotS ⟨3, 1, a, n, p⟩ (x.2.1 % 2)) (dfr x)).2, true) := by
  obtain ⟨u, v, b⟩ := x
  cases b <;> simp [takeS, dfr]
theorem gotS_val (T O n h : Nat) (hT : T ≤ h) (hO : O ≤ T + 1) (hh : h ≤ O) :
    gotS ⟨3, 1, T % 2, n, if T < O then itmB T else []⟩ (h % 2) = ⟨3, 1, h % 2, n, if h < O then itmB h else []⟩ := by
  unfold gotS
  by_cases hlt : T < O
  · simp only [hlt, ↓reduceIte]
    by_cases hh1 : h = T
    · subst hh1
      rw [if_neg (by simp)]
      simp [hlt]
    · have e : h = T + 1 := by omega
      subst e
      rw [if_pos ⟨by simp [itmB], by omega⟩]
      simp only [show ¬ (T + 1 < O) by omega, ↓reduceIte]
      congr 1
      omega
  · simp only [hlt, ↓reduceIte]
    have e : h = T := by omega
    subst e
    rw [if_neg (by simp)]
    simp [hlt]
theorem cmdS_val (s : Sl) (x : Nat × Nat × Bool) (C : Nat) (hn : s.nx = C % 2) (h1 : C ≤ x.1 + 1) (h2 : x.1 ≤ C) :
    cmdS s (dfr x) = if x.2.2 = true ∧ x.1 = C then ({ s with nx := (C + 1) % 2 }, cmdB C) else (s, []) := by
  obtain ⟨u, v, b⟩ := x
  simp only at h1 h2 ⊢
  cases b with
  | false => simp [cmdS, dfr]
  | true =>
    by_cases hu : u = C
    · subst hu
      have e : 1 - u % 2 = (u + 1) % 2 := by omega
      simp [cmdS, dfr, hn, e]
    · have e : ¬ u % 2 = C % 2 := by omega
      simp [cmdS, dfr, hn, e, hu]

theorem iv_take {l : Ln} {A T : Nat} {ds us : List (Nat × Nat × Bool)} (h : Iv l A T ds us) : (takeL l).2 = true ∧ ∃ T' ds' us', Iv (takeL l).1 A T' ds' us' ∧ (ds ≠ [] → us.length < 20 → ds'.length + 1 = ds.length ∧ us'.length = us.length + 1) ∧ ((ds = [] ∨ 20 ≤ us.length) → ds' = ds ∧ us' = us ∧ T' = T) ∧ (∀ x, ds.head? = some x → us.length < 20 → T' = x.2.1 ∧ us' = us ++ [((takeL l).1.came, x.2.1, decide (x.2.1 < l.offered))] ∧ (takeL l).1.came = if x.2.2 = true ∧ x.1 = l.came then l.came + 1 else l.came) := by
  have hul : l.up.length = us.length := by rw [h.up, List.length_map]
  cases hds : ds with
  | nil =>
    have hd : l.down = [] := by rw [h.dn, hds]; rfl
    have e : takeL l = (l, true) := by unfold takeL; rw [hd]
    rw [e]
    exact ⟨rfl, T, [], us, by rw [← hds]; exact h, fun h0 => absurd rfl h0, fun _ => ⟨rfl, rfl, rfl⟩, fun x hx => by simp at hx⟩
  | cons x ds1 =>
    have hd : l.down = dfr x :: ds1.map dfr := by rw [h.dn, hds]; rfl
    by_cases h20 : 20 ≤ l.up.length
    · have e : takeL l = (l, true) := by unfold takeL; rw [hd]; simp [h20]
      rw [e]
      exact ⟨rfl, T, x :: ds1, us, by rw [← hds]; exact h, fun _ hu => by omega, fun _ => ⟨rfl, rfl, rfl⟩, fun _ _ hu => by omega⟩
    · obtain ⟨b1, b2, b3, b4, b5⟩ := h.db x (by rw [hds]; simp)
      have hac := h.ac
      have hca := h.ca
      have hth := h.th
      have hho := h.ho
      have hot := h.ot
      have ho : Ord (x :: ds1) := by rw [← hds]; exact h.do_
      have ho1 := List.pairwise_cons.1 ho
      have ht := take_in (T % 2) 0 (l.came % 2) (if T < l.offered then itmB T else []) x
      rw [← h.sl, h.sl, gotS_val T l.offered (l.came % 2) x.2.1 b3 hot (by omega), cmdS_val _ x l.came rfl b1 (by omega), ← h.sl] at ht
      have hlen : l.down.length = ds1.length + 1 := by rw [hd]; simp
      by_cases hc : x.2.2 = true ∧ x.1 = l.came
      · simp only [hc, and_self, ↓reduceIte] at ht
        have e : takeL l = ({ l with s := ⟨3, 1, x.2.1 % 2, (l.came + 1) % 2, if x.2.1 < l.offered then itmB x.2.1 else []⟩, down := ds1.map dfr, up := l.up ++ [ufr (l.came + 1, x.2.1, decide (x.2.1 < l.offered))], came := l.came + 1 }, true) := by
          unfold takeL
          rw [hd]
          simp only [h20, ↓reduceIte, ht]
          rw [if_neg (by simp), if_pos (by simp [cmdB]), if_neg (by have := b5 hc.1; simp; omega)]
          simp [ansS, ufr]
        rw [e]
        refine ⟨rfl, x.2.1, ds1, us ++ [(l.came + 1, x.2.1, decide (x.2.1 < l.offered))], ?_, fun _ _ => ⟨by simp, by simp⟩, fun hh => hh.elim (fun h0 => by cases h0) (fun h0 => absurd h0 (by omega)), fun y hy _ => (by simp at hy; subst hy; exact ⟨rfl, rfl, by rw [if_pos hc]⟩)⟩
        have hcA : l.came = A := by omega
        have hsent := b5 hc.1
        refine { h with sl := rfl, ac := by show A ≤ l.came + 1; omega, ca := by show l.came + 1 ≤ A + 1; omega, cs := by show l.came + 1 ≤ l.sent; omega, th := b4, ot := by show l.offered ≤ x.2.1 + 1; omega, dn := rfl, db := ?_, do_ := ho1.2, up := ?_, ub := ?_, uo := ?_, d20 := ?_, u20 := ?_ }
        · intro y hy
          obtain ⟨g1, g2, g3, g4, g5⟩ := h.db y (by rw [hds]; simp [hy])
          obtain ⟨o1, o2⟩ := ho1.1 y hy
          exact ⟨by show l.came + 1 ≤ y.1 + 1; omega, g2, o2, g4, g5⟩
        · show l.up ++ [_] = _
          rw [h.up, List.map_append]
          rfl
        · intro y hy
          rw [List.mem_append] at hy
          rcases hy with hy | hy
          · obtain ⟨g1, g2, g3, g4, g5⟩ := h.ub y hy
            exact ⟨g1, by show y.1 ≤ l.came + 1; omega, g3, by omega, g5⟩
          · simp at hy
            subst hy
            exact ⟨by show A ≤ l.came + 1; omega, Nat.le_refl _, by show l.heard ≤ x.2.1 + 1; omega, Nat.le_refl _, fun hb => by simpa using hb⟩
        · refine List.pairwise_append.2 ⟨h.uo, by simp, ?_⟩
          intro y hy z hz
          simp at hz
          subst hz
          obtain ⟨g1, g2, g3, g4, g5⟩ := h.ub y hy
          exact ⟨by show y.1 ≤ l.came + 1; omega, by show y.2.1 ≤ x.2.1; omega⟩
        · have := h.d20
          show (ds1.map dfr).length ≤ 20
          rw [List.length_map]
          omega
        · show (l.up ++ [_]).length ≤ 20
          rw [List.length_append]
          simp
          omega
      · simp only [hc, ↓reduceIte] at ht
        have e : takeL l = ({ l with s := ⟨3, 1, x.2.1 % 2, l.came % 2, if x.2.1 < l.offered then itmB x.2.1 else []⟩, down := ds1.map dfr, up := l.up ++ [ufr (l.came, x.2.1, decide (x.2.1 < l.offered))] }, true) := by
          unfold takeL
          rw [hd]
          simp only [h20, ↓reduceIte, ht]
          rw [if_neg (by simp), if_neg (by simp)]
          simp [ansS, ufr]
        rw [e]
        refine ⟨rfl, x.2.1, ds1, us ++ [(l.came, x.2.1, decide (x.2.1 < l.offered))], ?_, fun _ _ => ⟨by simp, by simp⟩, fun hh => hh.elim (fun h0 => by cases h0) (fun h0 => absurd h0 (by omega)), fun y hy _ => (by simp at hy; subst hy; exact ⟨rfl, rfl, by rw [if_neg hc]⟩)⟩
        refine { h with sl := rfl, th := b4, ot := by show l.offered ≤ x.2.1 + 1; omega, dn := rfl, db := ?_, do_ := ho1.2, up := ?_, ub := ?_, uo := ?_, d20 := ?_, u20 := ?_ }
        · intro y hy
          obtain ⟨g1, g2, g3, g4, g5⟩ := h.db y (by rw [hds]; simp [hy])
          obtain ⟨o1, o2⟩ := ho1.1 y hy
          exact ⟨g1, g2, o2, g4, g5⟩
        · show l.up ++ [_] = _
          rw [h.up, List.map_append]
          rfl
        · intro y hy
          rw [List.mem_append] at hy
          rcases hy with hy | hy
          · obtain ⟨g1, g2, g3, g4, g5⟩ := h.ub y hy
            exact ⟨g1, g2, g3, by omega, g5⟩
          · simp at hy
            subst hy
            exact ⟨hac, Nat.le_refl _, by show l.heard ≤ x.2.1 + 1; omega, Nat.le_refl _, fun hb => by simpa using hb⟩
        · refine List.pairwise_append.2 ⟨h.uo, by simp, ?_⟩
          intro y hy z hz
          simp at hz
          subst hz
          obtain ⟨g1, g2, g3, g4, g5⟩ := h.ub y hy
          exact ⟨g2, by show y.2.1 ≤ x.2.1; omega⟩
        · have := h.d20
          show (ds1.map dfr).length ≤ 20
          rw [List.length_map]
          omega
        · show (l.up ++ [_]).length ≤ 20
          rw [List.length_append]
          simp
          omega

/-- What the master does with a frame of its session. -/
theorem heard_in (a h : Nat) (q : List (List UInt8)) (x : Nat × Nat × Bool) : heardM ⟨a, h, 3, 1, 100000, 1, 1, 0, q⟩ (ufr x) = ((freshM (settleM ⟨a, h, 3, 1, 100000, 1, 1, 0, q⟩ (x.1 % 2)) (ufr x)).1, (freshM (settleM ⟨a, h, 3, 1, 100000, 1, 1, 0, q⟩ (x.1 % 2)) (ufr x)).2, true) := by
  simp [heardM, lisM, ufr, quiet]
theorem settleM_val (A S h c : Nat) (hA : A ≤ c) (hc : c ≤ A + 1) (hS : c ≤ S) : settleM ⟨A % 2, h, 3, 1, 100000, 1, 1, 0, cmds A (S - A)⟩ (c % 2) = ⟨c % 2, h, 3, 1, 100000, 1, 1, 0, cmds c (S - c)⟩ := by
  unfold settleM
  by_cases e : c = A
  · subst e
    rw [if_neg (by simp)]
  · have e1 : c = A + 1 := by omega
    subst e1
    rw [if_pos ⟨by rw [cmds_len]; omega, by show ¬ (A + 1) % 2 = A % 2; omega⟩, show S - A = (S - (A + 1)) + 1 by omega, cmds_cons]
    simp
    omega
theorem freshM_val (m : Ma) (H : Nat) (x : Nat × Nat × Bool) (hm : m.hrd = H % 2) (h1 : H ≤ x.2.1 + 1) (h2 : x.2.1 ≤ H) :
    freshM m (ufr x) = if x.2.2 = true ∧ x.2.1 = H then ({ m with hrd := (H + 1) % 2 }, itmB H) else (m, []) := by
  obtain ⟨u, v, b⟩ := x
  simp only at h1 h2 ⊢
  cases b with
  | false => simp [freshM, ufr]
  | true =>
    by_cases hv : v = H
    · subst hv
      have e : 1 - v % 2 = (v + 1) % 2 := by omega
      simp [freshM, ufr, hm, e, itmB]
    · have e : ¬ v % 2 = H % 2 := by omega
      simp [freshM, ufr, hm, e, hv]

theorem iv_heard {l : Ln} {A T : Nat} {ds us : List (Nat × Nat × Bool)} (h : Iv l A T ds us) : (heardL l).2 = true ∧ ∃ A' us', Iv (heardL l).1 A' T ds us' ∧ us' = us.drop 1 ∧ A ≤ A' ∧ (us = [] → A' = A) ∧ (∀ x, us.head? = some x → A' = x.1 ∧ (heardL l).1.heard = if x.2.2 = true ∧ x.2.1 = l.heard then l.heard + 1 else l.heard) := by
  cases hus : us with
  | nil =>
    have hu : l.up = [] := by rw [h.up, hus]; rfl
    have e : heardL l = (l, true) := by unfold heardL; rw [hu]
    rw [e]
    exact ⟨rfl, A, [], by rw [← hus]; exact h, rfl, Nat.le_refl _, fun _ => rfl, fun x hx => by simp at hx⟩
  | cons x us1 =>
    have hu : l.up = ufr x :: us1.map ufr := by rw [h.up, hus]; rfl
    obtain ⟨b1, b2, b3, b4, b5⟩ := h.ub x (by rw [hus]; simp)
    have hac := h.ac
    have hca := h.ca
    have hcs := h.cs
    have hth := h.th
    have hho := h.ho
    have hot := h.ot
    have has := h.as
    have hq8 := h.q8
    have ho : Ord (x :: us1) := by rw [← hus]; exact h.uo
    have ho1 := List.pairwise_cons.1 ho
    have ht := heard_in (A % 2) (l.heard % 2) (cmds A (l.sent - A)) x
    rw [← h.mm, h.mm, settleM_val A l.sent _ x.1 b1 (by omega) (by omega), freshM_val _ l.heard x rfl b3 (by omega), ← h.mm] at ht
    have hlen : l.up.length = us1.length + 1 := by rw [hu]; simp
    have hu20 := h.u20
    by_cases hc : x.2.2 = true ∧ x.2.1 = l.heard
    · simp only [hc, and_self, ↓reduceIte] at ht
      have e : heardL l = ({ l with m := ⟨x.1 % 2, (l.heard + 1) % 2, 3, 1, 100000, 1, 1, 0, cmds x.1 (l.sent - x.1)⟩, up := us1.map ufr, heard := l.heard + 1 }, true) := by
        unfold heardL
        rw [hu]
        simp only [ht]
        rw [if_neg (by simp), if_pos (by simp [itmB]), if_neg (by have := b5 hc.1; simp; omega)]
      rw [e]
      have hlo := b5 hc.1
      refine ⟨rfl, x.1, us1, ?_, rfl, b1, fun h0 => (by cases h0), fun y hy => (by simp at hy; subst hy; exact ⟨rfl, by rw [if_pos hc]⟩)⟩
      refine { h with mm := rfl, as := by show x.1 ≤ l.sent; omega, q8 := by show l.sent - x.1 ≤ 8; omega, ac := b2, ca := by show l.came ≤ x.1 + 1; omega, th := by show T ≤ l.heard + 1; omega, ho := by show l.heard + 1 ≤ l.offered; omega, db := ?_, up := rfl, ub := ?_, uo := ho1.2, u20 := ?_ }
      · intro y hy
        obtain ⟨g1, g2, g3, g4, g5⟩ := h.db y hy
        exact ⟨g1, by omega, g3, by show y.2.1 ≤ l.heard + 1; omega, g5⟩
      · intro y hy
        obtain ⟨g1, g2, g3, g4, g5⟩ := h.ub y (by rw [hus]; simp [hy])
        obtain ⟨o1, o2⟩ := ho1.1 y hy
        exact ⟨o1, g2, by show l.heard + 1 ≤ y.2.1 + 1; omega, g4, g5⟩
      · show (us1.map ufr).length ≤ 20
        rw [List.length_map]
        omega
    · simp only [hc, ↓reduceIte] at ht
      have e : heardL l = ({ l with m := ⟨x.1 % 2, l.heard % 2, 3, 1, 100000, 1, 1, 0, cmds x.1 (l.sent - x.1)⟩, up := us1.map ufr }, true) := by
        unfold heardL
        rw [hu]
        simp only [ht]
        rw [if_neg (by simp), if_neg (by simp)]
      rw [e]
      refine ⟨rfl, x.1, us1, ?_, rfl, b1, fun h0 => (by cases h0), fun y hy => (by simp at hy; subst hy; exact ⟨rfl, by rw [if_neg hc]⟩)⟩
      refine { h with mm := rfl, as := by show x.1 ≤ l.sent; omega, q8 := by show l.sent - x.1 ≤ 8; omega, ac := b2, ca := by show l.came ≤ x.1 + 1; omega, db := ?_, up := rfl, ub := ?_, uo := ho1.2, u20 := ?_ }
      · intro y hy
        obtain ⟨g1, g2, g3, g4, g5⟩ := h.db y hy
        exact ⟨g1, by omega, g3, g4, g5⟩
      · intro y hy
        obtain ⟨g1, g2, g3, g4, g5⟩ := h.ub y (by rw [hus]; simp [hy])
        obtain ⟨o1, o2⟩ := ho1.1 y hy
        exact ⟨o1, g2, g3, g4, g5⟩
      · show (us1.map ufr).length ≤ 20
        rw [List.length_map]
        omega

/-- Behind whatever op. -/
def Ivx (l : Ln) : Prop := ∃ A T ds us, Iv l A T ds us
theorem ivx_does {l : Ln} (h : Ivx l) (k : Int) : (doesL l k).2 = true ∧ Ivx (doesL l k).1 := by
  obtain ⟨A, T, ds, us, h⟩ := h
  unfold doesL
  split
  · exact ⟨(iv_send h).1, A, T, ds, us, (iv_send h).2⟩
  · split
    · exact ⟨(iv_offer h).1, A, T, ds, us, (iv_offer h).2⟩
    · split
      · exact ⟨(iv_next h).1, A, T, _, us, (iv_next h).2⟩
      · split
        · obtain ⟨h1, T', ds', us', h2, _⟩ := iv_take h
          exact ⟨h1, A, T', ds', us', h2⟩
        · split
          · obtain ⟨h1, A', us', h2, _⟩ := iv_heard h
            exact ⟨h1, A', T, ds, us', h2⟩
          · split
            · exact ⟨rfl, A, T, _, us, iv_drop_down h⟩
            · split
              · exact ⟨rfl, A, T, ds, _, iv_drop_up h⟩
              · split
                · exact ⟨rfl, A, T, _, us, iv_twice_down h⟩
                · split
                  · exact ⟨rfl, A, T, ds, _, iv_twice_up h⟩
                  · exact ⟨rfl, A, T, ds, us, h⟩
/-- What a law of layer 8 sees of it. -/
theorem ivx_seen {l : Ln} (h : Ivx l) : l.m.st = 1 ∧ l.m.ep = 1 ∧ l.m.addr = 3 ∧ l.m.ses = 1 ∧ l.came ≤ l.sent ∧ l.m.q.length ≤ l.sent ∧ l.sent - l.m.q.length ≤ l.came ∧ l.came ≤ l.sent - l.m.q.length + 1 ∧ l.heard ≤ l.offered ∧ l.offered ≤ l.heard + 1 ∧ l.down.length ≤ 20 ∧ l.up.length ≤ 20 := by
  obtain ⟨A, T, ds, us, h⟩ := h
  have hq : l.m.q.length = l.sent - A := by rw [h.mm]; exact cmds_len _ _
  have h1 := h.as
  have h2 := h.ac
  have h3 := h.ca
  have h4 := h.th
  have h5 := h.ot
  refine ⟨by rw [h.mm], by rw [h.mm], by rw [h.mm], by rw [h.mm], h.cs, by omega, by omega, by omega, h.ho, by omega, h.d20, h.u20⟩

end Go.Proofs.Ytabedmkhhlmbkaa
