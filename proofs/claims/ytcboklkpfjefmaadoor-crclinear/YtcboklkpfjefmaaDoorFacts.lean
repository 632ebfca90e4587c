/-
  A region that draws its order, by facts: of each operation, what is known of the value that it yields, in whatever world behind it. Each operation is shown once, out of the facts of those that it waits for; in whatever order they come up, at the end all facts stand.
-/
import Derived.Deep.RegionHeld3
namespace Go.Proofs.YtcboklkpfjefmaaDoor
set_option linter.unusedVariables false
set_option linter.unusedSimpArgs false

/-- A frame of which some slots (the mask) are open. -/
def frL : List Value → List Bool → Nat → (Nat → Value) → List Value
  | [], _, _, _ => []
  | x :: xs, [], _, _ => x :: xs
  | x :: xs, true :: ms, k, v => v k :: frL xs ms (k + 1) v
  | x :: xs, false :: ms, k, v => x :: frL xs ms (k + 1) v
def upd (v : Nat → Value) (d : Nat) (x : Value) : Nat → Value := fun k => if k = d then x else v k

theorem frL_same : ∀ (l : List Value) (ms : List Bool) (k : Nat) (v : Nat → Value), (∀ j, j < l.length → v (k + j) = l.getD j undef) → frL l ms k v = l
  | [], _, _, _, _ => by simp [frL]
  | x :: xs, [], _, _, _ => rfl
  | x :: xs, true :: ms, k, v, h => by
    have h0 := h 0 (by simp)
    simp at h0
    simp only [frL, h0]
    rw [frL_same xs ms (k + 1) v (fun j hj => by have := h (j + 1) (by simpa using hj); rw [show k + 1 + j = k + (j + 1) by omega, this]; simp)]
  | x :: xs, false :: ms, k, v, h => by
    simp only [frL]
    rw [frL_same xs ms (k + 1) v (fun j hj => by have := h (j + 1) (by simpa using hj); rw [show k + 1 + j = k + (j + 1) by omega, this]; simp)]
theorem frL_upd : ∀ (l : List Value) (ms : List Bool) (k : Nat) (v : Nat → Value) (d : Nat) (x : Value), ms[d]? = some true → d < l.length → (frL l ms k v).set d x = frL l ms k (upd v (k + d) x)
  | [], _, _, _, _, _, _, h => by simp at h
  | y :: xs, [], _, _, _, _, h, _ => by simp at h
  | y :: xs, b :: ms, k, v, 0, x, h, _ => by
    simp at h
    subst h
    simp only [frL, List.set_cons_zero, Nat.add_zero]
    have e : ∀ (xs : List Value) (ms : List Bool) (m : Nat), k < m → frL xs ms m v = frL xs ms m (upd v k x) := by
      intro xs
      induction xs with
      | nil => intros; simp [frL]
      | cons z zs ih =>
        intro ms m hm
        match ms with
        | [] => rfl
        | true :: ms =>
          simp only [frL]
          rw [ih ms (m + 1) (by omega)]
          congr 1
          simp [upd]
          omega
        | false :: ms =>
          simp only [frL]
          rw [ih ms (m + 1) (by omega)]
    rw [e xs ms (k + 1) (by omega)]
    simp [upd]
  | y :: xs, true :: ms, k, v, d + 1, x, h, hl => by
    simp only [frL, List.set_cons_succ]
    rw [frL_upd xs ms (k + 1) v d x (by simpa using h) (by simpa using hl), show k + 1 + d = k + (d + 1) by omega]
    congr 1
    simp [upd]
  | y :: xs, false :: ms, k, v, d + 1, x, h, hl => by
    simp only [frL, List.set_cons_succ]
    rw [frL_upd xs ms (k + 1) v d x (by simpa using h) (by simpa using hl), show k + 1 + d = k + (d + 1) by omega]

/-- Whom an operation waits for, and the slot that one writes. -/
def depsOf (o : Oper) : List Nat := (o.after.toList.filter (Region.binds .any)).map (·.on)
def dstAt (ops : Array Oper) (i : Nat) : Nat := ((ops[i]?).bind (·.dst)).getD 0

/-- Each writes a slot of its own, open in the frame, and waits for earlier ones alone. -/
def factsOk (ops : Array Oper) (ms : List Bool) (n : Nat) : Bool :=
  (List.range ops.size).all fun i => match ops[i]? with
    | none => false
    | some o => (match o.dst with | none => false | some d => (ms[d]? == some true) && decide (d < n)) && (depsOf o).all (· < i) && (List.range i).all fun j => dstAt ops j != dstAt ops i

section
variable {P : Program} {ops : Array Oper} {Q : Exit → Act → World → Prop}

/-- The frame as it stands. -/
def fr (l : List Value) (df : List Deferred) (ms : List Bool) (v : Nat → Value) : Act := ⟨(frL l ms 0 v).toArray, df⟩

/-- One operation, shown out of the facts of those that it waits for. -/
def StepOf (P : Program) (ops : Array Oper) (Q : Exit → Act → World → Prop) (l : List Value) (df : List Deferred) (ms : List Bool) (Φ : Nat → Value → World → Prop) (S : World → Prop) (G : World → World → Prop) (o : Oper) (i : Nat) : Prop :=
  ∀ (v : Nat → Value) (w : World), S w → (∀ j ∈ depsOf o, Φ j (v (dstAt ops j)) w) → ∀ K : Act → World → Prop, Shut (∀ (x : Value) (w' : World), Φ i x w' → G w w' → S w' → K ((fr l df ms v).put o.dst x) w') →
    if Region.wanted o (yielded ops (fr l df ms v).tmps) = true then Oper.wp P o (fr l df ms v) w K Q else K ((fr l df ms v).put o.dst undef) w
def Steps (P : Program) (ops : Array Oper) (Q : Exit → Act → World → Prop) (l : List Value) (df : List Deferred) (ms : List Bool) (Φ : Nat → Value → World → Prop) (S : World → Prop) (G : World → World → Prop) : List Oper → Nat → Prop
  | [], _ => True
  | o :: os, i => StepOf P ops Q l df ms Φ S G o i ∧ Steps P ops Q l df ms Φ S G os (i + 1)
theorem Steps.get {l : List Value} {df : List Deferred} {ms : List Bool} {Φ : Nat → Value → World → Prop} {S : World → Prop} {G : World → World → Prop} : ∀ {os : List Oper} {k : Nat} (_ : Steps P ops Q l df ms Φ S G os k) (i : Nat) (o : Oper), os[i]? = some o → StepOf P ops Q l df ms Φ S G o (k + i)
  | [], _, _, i, o, h => by simp at h
  | x :: os, k, hs, 0, o, h => by
    simp at h
    subst h
    exact hs.1
  | x :: os, k, hs, i + 1, o, h => by
    have := Steps.get hs.2 i o (by simpa using h)
    rwa [show k + 1 + i = k + (i + 1) by omega] at this

theorem ready_iff {listed : Array Bool} {i : Nat} : i ∈ Region.ready .any ops listed ↔ i < ops.size ∧ listed.getD i true = false ∧ ∃ o, ops[i]? = some o ∧ ∀ j ∈ depsOf o, listed.getD j false = true := by
  unfold Region.ready depsOf
  simp only [List.mem_filter, List.mem_range, Bool.and_eq_true, Bool.not_eq_true']
  constructor
  · rintro ⟨h1, h2, h3⟩
    refine ⟨h1, h2, ops[i], Array.getElem?_eq_getElem h1, ?_⟩
    rw [Array.getElem?_eq_getElem h1] at h3
    simp only [Option.map_some, Option.getD_some, Array.all_eq_true_iff_forall_mem] at h3
    intro j hj
    simp only [List.mem_map, List.mem_filter] at hj
    obtain ⟨e, ⟨he, hb⟩, rfl⟩ := hj
    have := h3 e (by simpa using he)
    simpa [hb] using this
  · rintro ⟨h1, h2, o, ho, h3⟩
    refine ⟨h1, h2, ?_⟩
    rw [ho]
    simp only [Option.map_some, Option.getD_some, Array.all_eq_true_iff_forall_mem]
    intro e he
    by_cases hb : Region.binds .any e = true
    · have := h3 e.on (by simp only [List.mem_map, List.mem_filter]; exact ⟨e, ⟨by simpa using he, hb⟩, rfl⟩)
      simp [this]
    · simp [hb]

theorem factsOk_get {ms : List Bool} {n : Nat} (h : factsOk ops ms n = true) {i : Nat} {o : Oper} (ho : ops[i]? = some o) :
    (∃ d, o.dst = some d ∧ ms[d]? = some true ∧ d < n ∧ dstAt ops i = d) ∧ (∀ j ∈ depsOf o, j < i) ∧ ∀ j, j < i → dstAt ops j ≠ dstAt ops i := by
  unfold factsOk at h
  rw [List.all_eq_true] at h
  have h1 := h i (by simpa using (Array.getElem?_eq_some_iff.1 ho).1)
  rw [ho] at h1
  simp only [Bool.and_eq_true, List.all_eq_true, List.mem_range, bne_iff_ne, decide_eq_true_eq] at h1
  obtain ⟨⟨h2, h3⟩, h4⟩ := h1
  cases hd : o.dst with
  | none => rw [hd] at h2; simp at h2
  | some d =>
    rw [hd] at h2
    simp only [Bool.and_eq_true, beq_iff_eq, decide_eq_true_eq] at h2
    exact ⟨⟨d, rfl, h2.1, h2.2, by simp [dstAt, ho, hd]⟩, h3, h4⟩

theorem region_facts {id : Nat} {l : List Value} {df : List Deferred} {w : World} (ms : List Bool) (Φ : Nat → Value → World → Prop) (S : World → Prop) (G : World → World → Prop)
    (hm : P.follows .mixedOrders = true) (hok : factsOk ops ms l.length = true) (hmono : ∀ i v w w', Φ i v w → G w w' → Φ i v w') (hS : S w.drew)
    (hst : Steps P ops (NoPanic Q) l df ms Φ S G ops.toList 0)
    (hfin : ∀ (v : Nat → Value) (w' : World), S w' → (∀ i, i < ops.size → Φ i (v (dstAt ops i)) w') → Q .normal (fr l df ms v) w') : (Code.region id ops true).wp P Q ⟨l.toArray, df⟩ w := by
  have key : ∀ (fuel : Nat) (listed : Array Bool) (v : Nat → Value) (w : World), listed.size = ops.size → (listed.toList.countP (· == false)) ≤ fuel → S w → (∀ i, listed.getD i false = true → i < ops.size → Φ i (v (dstAt ops i)) w) →
      wpAnyH P .any ops (NoPanic Q) (fun _ => True) fuel listed (fr l df ms v) w := by
    intro fuel
    have hdone : ∀ (listed : Array Bool) (v : Nat → Value) (w : World), listed.size = ops.size → S w → (∀ i, listed.getD i false = true → i < ops.size → Φ i (v (dstAt ops i)) w) → Region.ready .any ops listed = [] → NoPanic Q .normal (fr l df ms v) w := by
      intro listed v w hsz hS hF hr
      refine NoPanic.normal (hfin v w hS fun i hi => hF i ?_ hi)
      have all : ∀ n i, i < n → i < ops.size → listed.getD i false = true := by
        intro n
        induction n with
        | zero => intro i h; omega
        | succ n ih =>
          intro i h hi
          by_cases hl : listed.getD i false = true
          · exact hl
          · exfalso
            have hmem : i ∈ Region.ready .any ops listed := by
              rw [ready_iff]
              refine ⟨hi, ?_, ops[i], Array.getElem?_eq_getElem hi, fun j hj => ?_⟩
              · have hil : i < listed.size := by omega
                simp only [Array.getD, hil, dif_pos] at hl ⊢
                simpa using hl
              · have hji := (factsOk_get hok (Array.getElem?_eq_getElem hi)).2.1 j hj
                exact ih j (by omega) (by omega)
            rw [hr] at hmem
            simp at hmem
      exact all (i + 1) i (by omega) hi
    induction fuel with
    | zero =>
      intro listed v w hsz hc hS hF
      have hr : Region.ready .any ops listed = [] := by
        rw [List.eq_nil_iff_forall_not_mem]
        intro i hi
        rw [ready_iff] at hi
        obtain ⟨h1, h2, _⟩ := hi
        have hil : i < listed.size := by omega
        have h0 : listed.toList.countP (· == false) = 0 := by omega
        rw [List.countP_eq_zero] at h0
        have := h0 listed[i] (by simp)
        simp [Array.getD, hil] at h2
        simp [h2] at this
      exact ⟨hr, hdone listed v w hsz hS hF hr⟩
    | succ fuel ih =>
      intro listed v w hsz hc hS hF
      refine ⟨fun hr => hdone listed v w hsz hS hF hr, fun i hi => ?_⟩
      rw [ready_iff] at hi
      obtain ⟨h1, h2, o, ho, h3⟩ := hi
      have hil : i < listed.size := by omega
      obtain ⟨⟨d, hd, hmd, hdn, hdi⟩, hdeps, _⟩ := factsOk_get hok ho
      have hstep := Steps.get hst i o (by simpa using ho)
      rw [Nat.zero_add] at hstep
      have hlt : ∀ j ∈ depsOf o, j < ops.size := fun j hj => by have := hdeps j hj; omega
      refine wpOp_step ho fun K hK => hstep v w hS (fun j hj => hF j (h3 j hj) (hlt j hj)) K (fun x w' hΦ hG hS' => hK _ _ ⟨trivial, ?_⟩)
      have hput : (fr l df ms v).put o.dst x = fr l df ms (upd v d x) := by
        unfold fr
        rw [hd]
        show Act.mk ((frL l ms 0 v).toArray.setIfInBounds d x) df = _
        rw [List.setIfInBounds_toArray, frL_upd l ms 0 v d x hmd hdn, Nat.zero_add]
      rw [hput]
      refine ih (listed.setIfInBounds i true) (upd v d x) w' (by simpa using hsz) ?_ hS' ?_
      · have hx : listed.toList[i]'(by simpa using hil) = false := by
          simpa [Array.getD, hil] using h2
        have e : (listed.setIfInBounds i true).toList.countP (· == false) = listed.toList.countP (· == false) - 1 := by
          rw [Array.toList_setIfInBounds, List.countP_set (by simpa using hil), hx]
          simp
        rw [e]
        omega
      · intro j hj hjo
        by_cases hji : j = i
        · subst hji
          rw [hdi]
          simp only [upd, if_true]
          exact hΦ
        · have hj' : listed.getD j false = true := by
            have hjl : j < listed.size := by omega
            simp only [Array.getD, Array.size_setIfInBounds, hjl, dif_pos] at hj ⊢
            rw [← hj]
            show listed[j] = (listed.setIfInBounds i true)[j]'(by rw [Array.size_setIfInBounds]; exact hjl)
            rw [Array.getElem_setIfInBounds_ne _ (Ne.symm hji)]
          have hne : dstAt ops j ≠ d := by
            rw [← hdi]
            rcases Nat.lt_or_gt_of_ne hji with h | h
            · exact (factsOk_get hok ho).2.2 j h
            · exact Ne.symm ((factsOk_get hok (Array.getElem?_eq_getElem hjo)).2.2 i h)
          simp only [upd, hne, if_false]
          exact hmono _ _ _ _ (hF j hj' hjo) hG
  have h0 := key ops.size (Array.replicate ops.size false) (fun k => l.getD k undef) w.drew (by simp) (by
    have := List.countP_le_length (p := (· == false)) (l := (Array.replicate ops.size false).toList)
    simpa using this) hS (fun i h hi => by simp [Array.getD, hi] at h)
  have hfr : fr l df ms (fun k => l.getD k undef) = ⟨l.toArray, df⟩ := by
    unfold fr
    rw [frL_same l ms 0 _ (fun j _ => by rw [Nat.zero_add])]
  rw [hfr] at h0
  exact wp_region_noPanic (wp_region_held_drew hm trivial fun _ => h0)
end

end Go.Proofs.YtcboklkpfjefmaaDoor
