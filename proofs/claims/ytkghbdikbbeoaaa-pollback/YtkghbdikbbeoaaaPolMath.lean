/-
  What a poll does, by the document (chapter 9), over plain data; what the laws of layer 9 need of it. Nothing of the program is named here.
-/
import Derived.Test.YtkghbdikbbeoaaaFBase
namespace Go.Proofs.Ytkghbdikbbeoaaa
set_option linter.unusedVariables false
set_option linter.unusedSimpArgs false

/-- An address of the row: is it dead, and since when. -/
structure Pe where
  a : Nat
  d : Bool
  t : Int
/-- A poll: its row, and the place behind the one that was told last as alive (0: none yet). -/
structure Po where
  l : List Pe
  nx : Nat
def pe (l : List Pe) (k : Nat) : Pe := (l[k]?).getD ⟨0, false, 0⟩
def Pe.due (p : Pe) (now : Int) : Bool := p.d && decide (p.t + 20 ≤ now)
def sooner (l : List Pe) (k : Nat) : Option Nat → Bool
  | none => true
  | some b => decide ((pe l k).t < (pe l b).t)
/-- Of the first k the one that is due, and was the longest time ago; of these the first. -/
def bestN (l : List Pe) (now : Int) : Nat → Option Nat
  | 0 => none
  | k + 1 => if ((pe l k).due now && sooner l k (bestN l now k)) = true then some k else bestN l now k
/-- Of the k places from nx on, round, the first whose address is alive. -/
def seekN (l : List Pe) (nx : Nat) : Nat → Option Nat
  | 0 => none
  | k + 1 => match seekN l nx k with
    | some i => some i
    | none => if (pe l ((nx + k) % l.length)).d then none else some ((nx + k) % l.length)
def setT (l : List Pe) (i : Nat) (e : Pe) : List Pe := l.set i e
def nextP (p : Po) (now : Int) : Po × Nat × Bool :=
  match bestN p.l now p.l.length with
  | some b => ({ p with l := p.l.set b { pe p.l b with t := now } }, (pe p.l b).a, true)
  | none => match seekN p.l p.nx p.l.length with
    | some i => ({ p with nx := i + 1 }, (pe p.l i).a, true)
    | none => (p, 0, false)
/-- The place of an address. -/
def findP (l : List Pe) (a : Nat) : Option Nat := l.findIdx? (fun e => e.a == a)
def aliveP (p : Po) (a : Nat) : Po × Int :=
  match findP p.l a with
  | none => (p, 6)
  | some i => ({ p with l := p.l.set i { pe p.l i with d := false } }, 0)
def deadP (p : Po) (a : Nat) (now : Int) : Po × Int :=
  match findP p.l a with
  | none => (p, 6)
  | some i => ({ p with l := p.l.set i { pe p.l i with d := true, t := now } }, 0)
def isP (p : Po) (a : Nat) : Bool :=
  match findP p.l a with
  | none => false
  | some i => !(pe p.l i).d
def addN (acc : List Nat) (b : UInt8) : List Nat := if 0 < b.toNat ∧ b.toNat < 32 ∧ b.toNat ∉ acc then acc ++ [b.toNat] else acc
def newN (l : List UInt8) : List Nat := l.foldl addN []
def newPe (a : Nat) : Pe := ⟨a, false, 0⟩
def newP (l : List UInt8) : Po := ⟨(newN l).map newPe, 0⟩
def Po.row (p : Po) : List Nat := p.l.map Pe.a
def Po.bytes (p : Po) : List UInt8 := p.row.map UInt8.ofNat

def I64 (t : Int) : Prop := -9223372036854775808 ≤ t ∧ t ≤ 9223372036854775807
/-- One that may be. -/
structure Po.Ok (p : Po) : Prop where
  nx : p.nx ≤ p.l.length
  lo : ∀ a ∈ p.row, 1 ≤ a
  hi : ∀ a ∈ p.row, a ≤ 31
  un : p.row.Nodup
  len : p.l.length ≤ 40
  ts : ∀ e ∈ p.l, I64 e.t

theorem pe_eq {l : List Pe} {k : Nat} (h : k < l.length) : pe l k = l[k] := by simp [pe, h]
theorem pe_mem {l : List Pe} {k : Nat} (h : k < l.length) : pe l k ∈ l := by rw [pe_eq h]; exact List.getElem_mem h
theorem pe_set {l : List Pe} {i k : Nat} {e : Pe} (h : i < l.length) : pe (l.set i e) k = if i = k then e else pe l k := by
  unfold pe
  rw [List.getElem?_set]
  split
  · rename_i hik; subst hik; simp [h]
  · rfl
theorem row_pe {p : Po} {k : Nat} (h : k < p.l.length) : p.row[k]? = some (pe p.l k).a := by simp [Po.row, pe, h]
theorem row_len (p : Po) : p.row.length = p.l.length := by simp [Po.row]
theorem row_set {l : List Pe} {i : Nat} {e : Pe} (he : e.a = (pe l i).a) : (l.set i e).map Pe.a = l.map Pe.a := by
  apply List.ext_getElem?
  intro k
  by_cases hk : k < l.length
  · by_cases hik : i = k
    · subst hik
      simp [hk, he, pe]
    · simp [hik]
  · simp [Nat.le_of_not_lt hk]

theorem bestN_lt {l : List Pe} {now : Int} : ∀ {k b : Nat}, bestN l now k = some b → b < k
  | 0, b, h => by simp [bestN] at h
  | k + 1, b, h => by
    unfold bestN at h
    split at h
    · cases h; omega
    · have := bestN_lt h; omega
theorem bestN_due {l : List Pe} {now : Int} : ∀ {k b : Nat}, bestN l now k = some b → (pe l b).due now = true
  | 0, b, h => by simp [bestN] at h
  | k + 1, b, h => by
    unfold bestN at h
    split at h
    · rename_i hc; cases h; simp at hc; exact hc.1
    · exact bestN_due h
theorem bestN_none {l : List Pe} {now : Int} : ∀ {k : Nat}, (∀ j, j < k → (pe l j).due now = false) → bestN l now k = none
  | 0, _ => rfl
  | k + 1, h => by
    unfold bestN
    rw [h k (Nat.lt_succ_self k), bestN_none (fun j hj => h j (Nat.lt_succ_of_lt hj))]
    simp
theorem bestN_none' {l : List Pe} {now : Int} : ∀ {k : Nat}, bestN l now k = none → ∀ j, j < k → (pe l j).due now = false
  | 0, _, j, hj => by omega
  | k + 1, h, j, hj => by
    unfold bestN at h
    split at h
    · cases h
    · rename_i hc
      by_cases hjk : j = k
      · subst hjk
        rw [h] at hc
        simpa [sooner] using hc
      · exact bestN_none' h j (by omega)
/-- Where all that are due have one time, it is the first. -/
theorem bestN_first {l : List Pe} {now T : Int} {i : Nat} (hi : (pe l i).due now = true) (hb : ∀ j, j < i → (pe l j).due now = false) : ∀ {k : Nat}, (∀ j, j < k → (pe l j).due now = true → (pe l j).t = T) → i < k → bestN l now k = some i
  | 0, _, h => by omega
  | k + 1, hT, h => by
    unfold bestN
    by_cases hik : i = k
    · subst hik
      rw [bestN_none hb, hi]
      simp [sooner]
    · rw [bestN_first hi hb (fun j hj => hT j (by omega)) (by omega)]
      by_cases hd : (pe l k).due now = true
      · rw [if_neg]
        rw [hd]
        have h1 := hT k (by omega) hd
        have h2 := hT i (by omega) hi
        simp [sooner, h1, h2]
      · rw [if_neg]
        simp [hd]

theorem seekN_some {l : List Pe} {nx : Nat} : ∀ {k i : Nat}, seekN l nx k = some i → ∃ j, j < k ∧ i = (nx + j) % l.length ∧ (pe l i).d = false ∧ ∀ j', j' < j → (pe l ((nx + j') % l.length)).d = true
  | 0, i, h => by simp [seekN] at h
  | k + 1, i, h => by
    unfold seekN at h
    split at h
    · rename_i i' hs
      cases h
      obtain ⟨j, hj, h1, h2, h3⟩ := seekN_some hs
      exact ⟨j, by omega, h1, h2, h3⟩
    · rename_i hs
      split at h
      · cases h
      · rename_i hd
        cases h
        refine ⟨k, by omega, rfl, by simpa using hd, fun j' hj' => seekN_none' hs j' hj'⟩
where
  seekN_none' {l : List Pe} {nx : Nat} : ∀ {k : Nat}, seekN l nx k = none → ∀ j, j < k → (pe l ((nx + j) % l.length)).d = true
  | 0, _, j, hj => by omega
  | k + 1, h, j, hj => by
    unfold seekN at h
    split at h
    · cases h
    · rename_i hs
      split at h
      · rename_i hd
        by_cases hjk : j = k
        · subst hjk; exact hd
        · exact seekN_none' hs j (by omega)
      · cases h
theorem seekN_none {l : List Pe} {nx k : Nat} (h : seekN l nx k = none) : ∀ j, j < k → (pe l ((nx + j) % l.length)).d = true := seekN_some.seekN_none' h
theorem seekN_of {l : List Pe} {nx j : Nat} (ha : (pe l ((nx + j) % l.length)).d = false) (hb : ∀ j', j' < j → (pe l ((nx + j') % l.length)).d = true) : ∀ {k : Nat}, j < k → seekN l nx k = some ((nx + j) % l.length)
  | 0, h => by omega
  | k + 1, h => by
    unfold seekN
    by_cases hjk : j = k
    · subst hjk
      cases hs : seekN l nx j with
      | some i =>
        obtain ⟨j', h1, h2, h3, _⟩ := seekN_some hs
        subst h2
        rw [hb j' h1] at h3
        cases h3
      | none => simp [ha]
    · rw [seekN_of ha hb (by omega)]
theorem seekN_dead {l : List Pe} {nx : Nat} : ∀ {k : Nat}, (∀ j, j < k → (pe l ((nx + j) % l.length)).d = true) → seekN l nx k = none
  | 0, _ => rfl
  | k + 1, h => by
    unfold seekN
    rw [seekN_dead (fun j hj => h j (by omega))]
    simp [h k (by omega)]
theorem seekN_lt {l : List Pe} {nx k i : Nat} (h : seekN l nx k = some i) (hk : k ≤ l.length) : i < l.length := by
  obtain ⟨j, hj, h1, _, _⟩ := seekN_some h
  subst h1
  exact Nat.mod_lt _ (by omega)

theorem findP_some {l : List Pe} {a i : Nat} (h : findP l a = some i) : i < l.length ∧ (pe l i).a = a := by
  unfold findP at h
  obtain ⟨h1, h2, _⟩ := List.findIdx?_eq_some_iff_getElem.1 h
  exact ⟨h1, by rw [pe_eq h1]; simpa using h2⟩
theorem findP_none {l : List Pe} {a : Nat} (h : findP l a = none) : a ∉ l.map Pe.a := by
  unfold findP at h
  rw [List.findIdx?_eq_none_iff] at h
  intro hm
  obtain ⟨e, he, rfl⟩ := List.mem_map.1 hm
  simpa using h e he
theorem findP_mem {l : List Pe} {a : Nat} (h : a ∈ l.map Pe.a) : ∃ i, findP l a = some i := by
  cases hf : findP l a with
  | none => exact absurd h (findP_none hf)
  | some i => exact ⟨i, rfl⟩
theorem findP_not {l : List Pe} {a : Nat} (h : a ∉ l.map Pe.a) : findP l a = none := by
  cases hf : findP l a with
  | none => rfl
  | some i => obtain ⟨h1, rfl⟩ := findP_some hf; exact absurd (List.mem_map_of_mem (pe_mem h1)) h
/-- In a row of unlike addresses each is at its place. -/
theorem findP_at {l : List Pe} (hu : (l.map Pe.a).Nodup) {i : Nat} (hi : i < l.length) : findP l (pe l i).a = some i := by
  obtain ⟨j, hj⟩ := findP_mem (l := l) (List.mem_map_of_mem (pe_mem hi))
  obtain ⟨h1, h2⟩ := findP_some hj
  rw [hj]
  congr 1
  rw [pe_eq h1, pe_eq hi] at h2
  exact (List.getElem_inj (h₀ := by simpa using h1) (h₁ := by simpa using hi) hu).1 (by simpa using h2)

theorem nextP_row (p : Po) (now : Int) : (nextP p now).1.row = p.row := by
  unfold nextP
  split
  · exact row_set rfl
  · split <;> rfl
theorem aliveP_row (p : Po) (a : Nat) : (aliveP p a).1.row = p.row := by
  unfold aliveP
  split
  · rfl
  · exact row_set rfl
theorem deadP_row (p : Po) (a : Nat) (now : Int) : (deadP p a now).1.row = p.row := by
  unfold deadP
  split
  · rfl
  · exact row_set rfl
theorem aliveP_err {p : Po} {a : Nat} : (aliveP p a).2 = if a ∈ p.row then 0 else 6 := by
  unfold aliveP
  split
  · rename_i h; exact (if_neg (findP_none h)).symm
  · rename_i i h; obtain ⟨h1, rfl⟩ := findP_some h; exact (if_pos (c := _ ∈ p.row) (List.mem_map_of_mem (f := Pe.a) (pe_mem h1))).symm
theorem deadP_err {p : Po} {a : Nat} {now : Int} : (deadP p a now).2 = if a ∈ p.row then 0 else 6 := by
  unfold deadP
  split
  · rename_i h; exact (if_neg (findP_none h)).symm
  · rename_i i h; obtain ⟨h1, rfl⟩ := findP_some h; exact (if_pos (c := _ ∈ p.row) (List.mem_map_of_mem (f := Pe.a) (pe_mem h1))).symm
theorem isP_not {p : Po} {a : Nat} (h : a ∉ p.row) : isP p a = false := by unfold isP; rw [findP_not h]
theorem mem_set_ts {l : List Pe} {i : Nat} {e x : Pe} (h : x ∈ l.set i e) : x = e ∨ x ∈ l := by
  rcases List.mem_or_eq_of_mem_set h with h | h
  · exact .inr h
  · exact .inl h
theorem Po.Ok.set {p : Po} (h : p.Ok) {i : Nat} {e : Pe} (he : e.a = (pe p.l i).a) (ht : I64 e.t) : Po.Ok { p with l := p.l.set i e } := by
  have hr : ({ p with l := p.l.set i e } : Po).row = p.row := row_set he
  refine ⟨by simpa using h.nx, by rw [hr]; exact h.lo, by rw [hr]; exact h.hi, by rw [hr]; exact h.un, by simpa using h.len, fun x hx => ?_⟩
  rcases mem_set_ts hx with rfl | hx
  · exact ht
  · exact h.ts x hx
theorem nextP_ok {p : Po} (h : p.Ok) {now : Int} (hn : I64 now) : (nextP p now).1.Ok := by
  unfold nextP
  split
  · exact h.set rfl hn
  · split
    · rename_i i hs
      exact { h with nx := seekN_lt hs (Nat.le_refl _) }
    · exact h
theorem aliveP_ok {p : Po} (h : p.Ok) (a : Nat) : (aliveP p a).1.Ok := by
  unfold aliveP
  split
  · exact h
  · rename_i i hf; exact h.set rfl (by show I64 (pe p.l i).t; exact h.ts _ (pe_mem (findP_some hf).1))
theorem deadP_ok {p : Po} (h : p.Ok) (a : Nat) {now : Int} (hn : I64 now) : (deadP p a now).1.Ok := by
  unfold deadP
  split
  · exact h
  · exact h.set rfl hn
theorem nextP_told {p : Po} {now : Int} : ((nextP p now).2.2 = true ∧ (nextP p now).2.1 ∈ p.row) ∨ nextP p now = (p, 0, false) := by
  unfold nextP
  split
  · rename_i b hb
    exact .inl ⟨rfl, List.mem_map_of_mem (pe_mem (bestN_lt hb))⟩
  · split
    · rename_i i hs
      exact .inl ⟨rfl, List.mem_map_of_mem (pe_mem (seekN_lt hs (Nat.le_refl _)))⟩
    · exact .inr rfl

theorem addN_inv {acc : List Nat} (b : UInt8) (h1 : acc.Nodup) (h2 : ∀ a ∈ acc, 1 ≤ a ∧ a ≤ 31) : (addN acc b).Nodup ∧ (∀ a ∈ addN acc b, 1 ≤ a ∧ a ≤ 31) ∧ (addN acc b).length ≤ acc.length + 1 := by
  unfold addN
  split
  · rename_i hc
    refine ⟨?_, ?_, by simp⟩
    · rw [List.nodup_append]
      refine ⟨h1, by simp, ?_⟩
      intro x hx y hy
      simp at hy
      subst hy
      rintro rfl
      exact hc.2.2 hx
    · intro a ha
      rcases List.mem_append.1 ha with ha | ha
      · exact h2 a ha
      · simp at ha; omega
  · exact ⟨h1, h2, by omega⟩
theorem newN_inv (l : List UInt8) : ∀ acc : List Nat, acc.Nodup → (∀ a ∈ acc, 1 ≤ a ∧ a ≤ 31) → (l.foldl addN acc).Nodup ∧ (∀ a ∈ l.foldl addN acc, 1 ≤ a ∧ a ≤ 31) ∧ (l.foldl addN acc).length ≤ acc.length + l.length := by
  induction l with
  | nil => intro acc h1 h2; exact ⟨h1, h2, by simp⟩
  | cons b t ih =>
    intro acc h1 h2
    obtain ⟨k1, k2, k3⟩ := addN_inv b h1 h2
    obtain ⟨m1, m2, m3⟩ := ih _ k1 k2
    exact ⟨m1, m2, by simp only [List.foldl_cons, List.length_cons]; omega⟩
theorem newP_row (l : List UInt8) : (newP l).row = newN l := by
  show ((newN l).map newPe).map Pe.a = newN l
  rw [List.map_map]
  exact (List.map_congr_left (fun a _ => rfl)).trans (List.map_id _)
theorem newP_ok {l : List UInt8} (h : l.length ≤ 40) : (newP l).Ok := by
  obtain ⟨h1, h2, h3⟩ := newN_inv l [] List.nodup_nil (by simp)
  have hr := newP_row l
  refine ⟨Nat.zero_le _, by rw [hr]; exact fun a ha => (h2 a ha).1, by rw [hr]; exact fun a ha => (h2 a ha).2, by rw [hr]; exact h1, ?_, ?_⟩
  · have : (newP l).l.length = (newN l).length := by simp [newP]
    rw [this]
    have : newN l = l.foldl addN [] := rfl
    rw [this]
    simp at h3
    omega
  · intro e he
    obtain ⟨a, _, rfl⟩ := List.mem_map.1 he
    exact ⟨by show _ ≤ (0 : Int); omega, by show (0 : Int) ≤ _; omega⟩
theorem newP_alive (l : List UInt8) : ∀ e ∈ (newP l).l, e.d = false := by
  intro e he
  obtain ⟨a, _, rfl⟩ := List.mem_map.1 he
  rfl

/-! ### Who is alive is told in turn -/
def own (l : List Pe) : List Nat := (l.filter (fun e => !e.d)).map Pe.a
def rank (l : List Pe) (k : Nat) : Nat := (l.take k).countP (fun e => !e.d)
theorem rank_zero (l : List Pe) : rank l 0 = 0 := by simp [rank]
theorem rank_all (l : List Pe) : rank l l.length = (own l).length := by
  unfold rank own
  rw [List.take_length, List.length_map, List.countP_eq_length_filter]
theorem rank_succ {l : List Pe} {k : Nat} (h : k < l.length) : rank l (k + 1) = rank l k + (if (pe l k).d then 0 else 1) := by
  unfold rank
  rw [List.take_add_one, List.countP_append, pe_eq h, List.getElem?_eq_getElem h]
  cases hd : l[k].d <;> simp [hd]
theorem rank_mono {l : List Pe} {i j : Nat} (h : i ≤ j) (hj : j ≤ l.length) : rank l i ≤ rank l j := by
  induction j with
  | zero => simp at h; subst h; exact Nat.le_refl _
  | succ j ih =>
    by_cases hij : i = j + 1
    · subst hij; exact Nat.le_refl _
    · rw [rank_succ (by omega)]
      have := ih (by omega) (by omega)
      omega
theorem rank_flat {l : List Pe} {i j : Nat} (h : i ≤ j) (hj : j ≤ l.length) (hd : ∀ k, i ≤ k → k < j → (pe l k).d = true) : rank l j = rank l i := by
  induction j with
  | zero => simp at h; subst h; rfl
  | succ j ih =>
    by_cases hij : i = j + 1
    · subst hij; rfl
    · rw [rank_succ (by omega), hd j (by omega) (by omega), ih (by omega) (by omega) (fun k h1 h2 => hd k h1 (by omega))]
      simp
theorem own_rank {l : List Pe} : ∀ {i : Nat}, i < l.length → (pe l i).d = false → (own l)[rank l i]? = some (pe l i).a := by
  induction l with
  | nil => intro i h; simp at h
  | cons e t ih =>
    intro i hi hd
    cases i with
    | zero =>
      have h0 : e.d = false := hd
      simp [own, rank, h0, pe]
    | succ i =>
      have hi' : i < t.length := by simpa using hi
      have hp : pe (e :: t) (i + 1) = pe t i := by simp [pe]
      rw [hp] at hd ⊢
      have := ih hi' hd
      cases h0 : e.d with
      | true =>
        have e1 : own (e :: t) = own t := by simp [own, h0]
        have e2 : rank (e :: t) (i + 1) = rank t i := by simp [rank, h0]
        rw [e1, e2]; exact this
      | false =>
        have e1 : own (e :: t) = e.a :: own t := by simp [own, h0]
        have e2 : rank (e :: t) (i + 1) = rank t i + 1 := by simp [rank, h0]
        rw [e1, e2]; simpa using this
theorem own_none {l : List Pe} (h : ∀ k, k < l.length → (pe l k).d = true) : own l = [] := by
  have h1 := rank_all l
  rw [rank_flat (Nat.zero_le _) (Nat.le_refl _) (fun k _ hk => h k hk), rank_zero] at h1
  exact List.eq_nil_of_length_eq_zero h1.symm
/-- The next one that is alive. -/
theorem seek_turn {l : List Pe} {nx : Nat} (hn : nx ≤ l.length) (hm : 0 < (own l).length) :
    ∃ i, seekN l nx l.length = some i ∧ i < l.length ∧ (own l)[rank l nx % (own l).length]? = some (pe l i).a ∧ rank l (i + 1) = rank l nx % (own l).length + 1 := by
  cases hs : seekN l nx l.length with
  | none =>
    exfalso
    have h1 := seekN_none hs
    have h2 : own l = [] := own_none (fun k hk => by
      have hl : 0 < l.length := by omega
      by_cases hkn : nx ≤ k
      · have := h1 (k - nx) (by omega)
        rwa [show nx + (k - nx) = k by omega, Nat.mod_eq_of_lt hk] at this
      · have := h1 (l.length - nx + k) (by omega)
        rwa [show nx + (l.length - nx + k) = k + l.length by omega, Nat.add_mod_right, Nat.mod_eq_of_lt hk] at this)
    rw [h2] at hm
    simp at hm
  | some i =>
    have hil := seekN_lt hs (Nat.le_refl _)
    obtain ⟨j, hj, h1, h2, h3⟩ := seekN_some hs
    have hr1 := rank_succ hil
    rw [h2] at hr1
    have hra := rank_all l
    refine ⟨i, rfl, hil, ?_⟩
    by_cases hw : nx + j < l.length
    · rw [Nat.mod_eq_of_lt hw] at h1
      have hf : rank l i = rank l nx := rank_flat (by omega) (by omega) (fun k k1 k2 => by
        have := h3 (k - nx) (by omega)
        rwa [show nx + (k - nx) = k by omega, Nat.mod_eq_of_lt (by omega)] at this)
      have hle := rank_mono (l := l) (i := i + 1) (j := l.length) (by omega) (Nat.le_refl _)
      simp at hr1
      have hlt : rank l nx < (own l).length := by omega
      rw [Nat.mod_eq_of_lt hlt]
      refine ⟨?_, by omega⟩
      rw [← hf]
      exact own_rank hil h2
    · have h1' : i = nx + j - l.length := by
        rw [h1, Nat.mod_eq_sub_mod (by omega), Nat.mod_eq_of_lt (by omega)]
      have hf : rank l l.length = rank l nx := rank_flat hn (Nat.le_refl _) (fun k k1 k2 => by
        have := h3 (k - nx) (by omega)
        rwa [show nx + (k - nx) = k by omega, Nat.mod_eq_of_lt (by omega)] at this)
      have hg : rank l i = rank l 0 := rank_flat (Nat.zero_le _) (by omega) (fun k _ k2 => by
        have := h3 (l.length - nx + k) (by omega)
        rwa [show nx + (l.length - nx + k) = k + l.length by omega, Nat.add_mod_right, Nat.mod_eq_of_lt (by omega)] at this)
      rw [rank_zero] at hg
      have hz : rank l nx % (own l).length = 0 := by rw [← hf, hra, Nat.mod_self]
      rw [hz]
      simp at hr1
      refine ⟨?_, by omega⟩
      rw [← hg]
      exact own_rank hil h2
theorem due_dead {e : Pe} {now : Int} (h : e.d = false) : e.due now = false := by simp [Pe.due, h]
theorem best_none {p : Po} {now : Int} (hn : ∀ e ∈ p.l, e.due now = false) : bestN p.l now p.l.length = none := bestN_none (fun _ hj => hn _ (pe_mem hj))
/-- Nobody is due, somebody is alive: they come in turn. -/
theorem next_turn {p : Po} {now : Int} (hx : p.nx ≤ p.l.length) (hn : ∀ e ∈ p.l, e.due now = false) (hm : 0 < (own p.l).length) :
    ∃ nx' a, nextP p now = ({ p with nx := nx' }, a, true) ∧ (own p.l)[rank p.l p.nx % (own p.l).length]? = some a ∧ nx' ≤ p.l.length ∧ rank p.l nx' = rank p.l p.nx % (own p.l).length + 1 := by
  obtain ⟨i, h1, h2, h3, h4⟩ := seek_turn hx hm
  exact ⟨i + 1, _, by unfold nextP; rw [best_none hn, h1], h3, h2, h4⟩
/-- Nobody is due, nobody is alive. -/
theorem next_none {p : Po} {now : Int} (hn : ∀ e ∈ p.l, e.due now = false) (hd : ∀ e ∈ p.l, e.d = true) : nextP p now = (p, 0, false) := by
  unfold nextP
  rw [best_none hn, seekN_dead (fun j hj => hd _ (pe_mem (Nat.mod_lt _ (by omega))))]
theorem own_alive {p : Po} (h : ∀ e ∈ p.l, e.d = false) : own p.l = p.row := by
  unfold own Po.row
  rw [List.filter_eq_self.2 (fun e he => by simp [h e he])]
theorem rank_alive {l : List Pe} (h : ∀ e ∈ l, e.d = false) {k : Nat} (hk : k ≤ l.length) : rank l k = k := by
  unfold rank
  rw [List.countP_eq_length.2 (fun e he => by simp [h e (List.mem_of_mem_take he)]), List.length_take]
  omega
/-- All are alive. -/
theorem next_alive {p : Po} {now : Int} (hx : p.nx ≤ p.l.length) (h : ∀ e ∈ p.l, e.d = false) (hl : 0 < p.l.length) :
    ∃ a, nextP p now = ({ p with nx := p.nx % p.l.length + 1 }, a, true) ∧ p.row[p.nx % p.l.length]? = some a := by
  have ho := own_alive h
  have hlen : (own p.l).length = p.l.length := by rw [ho, row_len]
  obtain ⟨nx', a, h1, h2, h3, h4⟩ := next_turn (now := now) hx (fun e he => due_dead (h e he)) (by omega)
  rw [rank_alive h h3, rank_alive h hx, hlen] at h4
  rw [rank_alive h hx, hlen, ho] at h2
  subst h4
  exact ⟨a, h1, h2⟩
theorem next_empty {p : Po} {now : Int} (hl : p.l.length = 0) : nextP p now = (p, 0, false) := by
  have hn : p.l = [] := List.eq_nil_of_length_eq_zero hl
  exact next_none (by rw [hn]; simp) (by rw [hn]; simp)

/-! ### Two polls of which all are alive -/
structure Sam (p q : Po) : Prop where
  pa : ∀ e ∈ p.l, e.d = false
  qa : ∀ e ∈ q.l, e.d = false
  row : p.row = q.row
  nx : p.nx = q.nx
theorem Sam.next {p q : Po} (h : Sam p q) (hp : p.Ok) (hq : q.Ok) (t : Int) : (nextP p t).2 = (nextP q t).2 ∧ Sam (nextP p t).1 (nextP q t).1 := by
  have hl : p.l.length = q.l.length := by rw [← row_len p, ← row_len q, h.row]
  by_cases h0 : p.l.length = 0
  · rw [next_empty h0, next_empty (p := q) (by omega)]
    exact ⟨rfl, h⟩
  · obtain ⟨a, h1, h2⟩ := next_alive (now := t) hp.nx h.pa (by omega)
    obtain ⟨b, h3, h4⟩ := next_alive (now := t) hq.nx h.qa (by omega)
    rw [h1, h3]
    rw [← h.row, ← h.nx, ← hl, h2] at h4
    injection h4 with h4
    exact ⟨by rw [h4], h.pa, h.qa, h.row, by show p.nx % p.l.length + 1 = q.nx % q.l.length + 1; rw [hl, h.nx]⟩
theorem Sam.back {p q : Po} (h : Sam p q) (hp : p.Ok) (a : Nat) (t : Int) : (aliveP (deadP p a t).1 a).2 = (deadP p a t).2 ∧ ((deadP p a t).2 = 0 → isP (aliveP (deadP p a t).1 a).1 a = true) ∧ Sam (aliveP (deadP p a t).1 a).1 q := by
  by_cases ha : a ∈ p.row
  · obtain ⟨i, hi⟩ := findP_mem ha
    obtain ⟨hil, hia⟩ := findP_some hi
    obtain ⟨e, he⟩ : ∃ e, ({ pe p.l i with d := true, t := t } : Pe) = e := ⟨_, rfl⟩
    have hea : e.a = a := by rw [← he]; exact hia
    have hd : deadP p a t = ({ p with l := p.l.set i e }, 0) := by unfold deadP; rw [hi, ← he]
    have hr : (p.l.set i e).map Pe.a = p.l.map Pe.a := row_set (by rw [hea, hia])
    have hf : findP (p.l.set i e) a = some i := by
      have h1 : i < (p.l.set i e).length := by simpa using hil
      have h2 := findP_at (l := p.l.set i e) (by rw [hr]; exact hp.un) h1
      rw [pe_set hil, if_pos rfl, hea] at h2
      exact h2
    have hal : aliveP { p with l := p.l.set i e } a = ({ p with l := p.l.set i { e with d := false } }, 0) := by
      unfold aliveP
      show (match findP (p.l.set i e) a with | none => _ | some i => _) = _
      rw [hf]
      simp only [pe_set hil, if_true, List.set_set]
    rw [hd]
    show (aliveP { p with l := p.l.set i e } a).2 = 0 ∧ ((0 : Int) = 0 → isP (aliveP { p with l := p.l.set i e } a).1 a = true) ∧ Sam (aliveP { p with l := p.l.set i e } a).1 q
    rw [hal]
    have hr2 : (p.l.set i { e with d := false }).map Pe.a = p.l.map Pe.a := row_set (by show e.a = _; rw [hea, hia])
    refine ⟨rfl, fun _ => ?_, ?_, h.qa, by show (p.l.set i { e with d := false }).map Pe.a = _; rw [hr2]; exact h.row, h.nx⟩
    · unfold isP
      have h1 : i < (p.l.set i { e with d := false }).length := by simpa using hil
      have h2 := findP_at (l := p.l.set i { e with d := false }) (by rw [hr2]; exact hp.un) h1
      rw [pe_set hil, if_pos rfl] at h2
      have h3 : findP (p.l.set i { e with d := false }) a = some i := by rw [← hea]; exact h2
      show (match findP (p.l.set i { e with d := false }) a with | none => false | some i => _) = true
      rw [h3]
      simp [pe_set hil]
    · intro x hx
      rcases mem_set_ts hx with rfl | hx
      · rfl
      · exact h.pa x hx
  · have h1 : findP p.l a = none := findP_not ha
    have hd : deadP p a t = (p, 6) := by unfold deadP; rw [h1]
    have hal : aliveP p a = (p, 6) := by unfold aliveP; rw [h1]
    rw [hd]
    show (aliveP p a).2 = 6 ∧ ((6 : Int) = 0 → _) ∧ Sam (aliveP p a).1 q
    rw [hal]
    exact ⟨rfl, fun h => absurd h (by decide), h⟩

theorem own_snoc {l : List Pe} {i : Nat} (hi : i < l.length) : own (l.take (i + 1)) = own (l.take i) ++ (if (pe l i).d then [] else [(pe l i).a]) := by
  unfold own
  rw [List.take_add_one, List.getElem?_eq_getElem hi, pe_eq hi, List.filter_append, List.map_append]
  congr 1
  cases hd : l[i].d <;> simp [hd]
theorem own_nodup {p : Po} (h : p.Ok) : (own p.l).Nodup := by
  unfold own
  exact List.Sublist.nodup (List.filter_sublist.map Pe.a) h.un
theorem dead_at {p : Po} (h : p.Ok) {i : Nat} (hi : i < p.l.length) (t : Int) : deadP p (pe p.l i).a t = ({ p with l := p.l.set i { pe p.l i with d := true, t := t } }, 0) := by
  unfold deadP
  rw [findP_at h.un hi]
theorem alive_at {p : Po} (h : p.Ok) {i : Nat} (hi : i < p.l.length) : aliveP p (pe p.l i).a = ({ p with l := p.l.set i { pe p.l i with d := false } }, 0) := by
  unfold aliveP
  rw [findP_at h.un hi]
theorem is_at {p : Po} (h : p.Ok) {i : Nat} (hi : i < p.l.length) : isP p (pe p.l i).a = !(pe p.l i).d := by
  unfold isP
  rw [findP_at h.un hi]
theorem turn_step {l : List Pe} {nx a0 k : Nat} {t : Int} (hx : nx ≤ l.length) (hn : ∀ e ∈ l, e.due t = false) (hm : 0 < (own l).length) (hr : rank l nx = (a0 + k) % (own l).length + 1) :
    ∃ nx' a, nextP ⟨l, nx⟩ t = (⟨l, nx'⟩, a, true) ∧ (own l)[(a0 + (k + 1)) % (own l).length]? = some a ∧ nx' ≤ l.length ∧ rank l nx' = (a0 + (k + 1)) % (own l).length + 1 := by
  obtain ⟨nx', a, h1, h2, h3, h4⟩ := next_turn (p := ⟨l, nx⟩) hx hn hm
  have e : rank l nx % (own l).length = (a0 + (k + 1)) % (own l).length := by rw [hr, Nat.mod_add_mod]; rfl
  simp only at h1 h2 h3 h4
  rw [e] at h2 h4
  exact ⟨nx', a, h1, h2, h3, h4⟩
/-- While some of them die. -/
structure Dy (p : Po) (i : Nat) (T : Int) : Prop where
  ok : p.Ok
  since : ∀ e ∈ p.l, e.d = true → e.t = T
  rest : ∀ k, i ≤ k → k < p.l.length → (pe p.l k).d = false
theorem Dy.die {p : Po} {i : Nat} {T : Int} (h : Dy p i T) (hT : I64 T) (hi : i < p.l.length) : Dy { p with l := p.l.set i { pe p.l i with d := true, t := T } } (i + 1) T ∧ own ((p.l.set i { pe p.l i with d := true, t := T }).take (i + 1)) = own (p.l.take i) := by
  refine ⟨⟨h.ok.set rfl hT, fun e he hd => ?_, fun k h1 h2 => ?_⟩, ?_⟩
  · rcases mem_set_ts he with rfl | he
    · rfl
    · exact h.since e he hd
  · rw [pe_set hi, if_neg (by omega)]
    exact h.rest k (by omega) (by simpa using h2)
  · have e : (p.l.set i { pe p.l i with d := true, t := T }).take i = p.l.take i := by
      apply List.ext_getElem?
      intro k
      rw [List.getElem?_take, List.getElem?_take]
      split
      · rw [List.getElem?_set_ne (by omega)]
      · rfl
    rw [own_snoc (by simpa using hi), pe_set hi, if_pos rfl, e]
    simp
theorem Dy.live {p : Po} {i : Nat} {T : Int} (h : Dy p i T) (hi : i < p.l.length) : Dy p (i + 1) T ∧ own (p.l.take (i + 1)) = own (p.l.take i) ++ [(pe p.l i).a] := by
  refine ⟨⟨h.ok, h.since, fun k h1 h2 => h.rest k (by omega) h2⟩, ?_⟩
  rw [own_snoc hi, h.rest i (Nat.le_refl _) hi]
  rfl
theorem Dy.due {p : Po} {i : Nat} {T t : Int} (h : Dy p i T) (ht : t < T + 20) : ∀ e ∈ p.l, e.due t = false := by
  intro e he
  unfold Pe.due
  cases hd : e.d with
  | false => rfl
  | true =>
    have := h.since e he hd
    simp
    omega
theorem own_dead {l : List Pe} (h : own l = []) : ∀ e ∈ l, e.d = true := by
  intro e he
  unfold own at h
  rw [List.map_eq_nil_iff, List.filter_eq_nil_iff] at h
  simpa using h e he

/-! ### One of them is dead -/
structure OneD (p : Po) (i : Nat) (T : Int) : Prop where
  ok : p.Ok
  lt : i < p.l.length
  dead : (pe p.l i).d = true
  t : (pe p.l i).t = T
  rest : ∀ k, k < p.l.length → k ≠ i → (pe p.l k).d = false
theorem mem_pe {l : List Pe} {e : Pe} (h : e ∈ l) : ∃ k, k < l.length ∧ pe l k = e := by
  obtain ⟨k, hk, rfl⟩ := List.getElem_of_mem h
  exact ⟨k, hk, pe_eq hk⟩
theorem OneD.make {p : Po} (h : p.Ok) (ha : ∀ e ∈ p.l, e.d = false) {i : Nat} (hi : i < p.l.length) {T : Int} (hT : I64 T) :
    ∃ q, deadP p (pe p.l i).a T = (q, 0) ∧ OneD q i T ∧ q.row = p.row ∧ isP q (pe p.l i).a = false := by
  have hr : ({ p with l := p.l.set i { pe p.l i with d := true, t := T } } : Po).row = p.row := row_set rfl
  have hq : ({ p with l := p.l.set i { pe p.l i with d := true, t := T } } : Po).Ok := h.set rfl hT
  have hil : i < ({ p with l := p.l.set i { pe p.l i with d := true, t := T } } : Po).l.length := by simpa using hi
  have hp : pe ({ p with l := p.l.set i { pe p.l i with d := true, t := T } } : Po).l i = { pe p.l i with d := true, t := T } := by rw [pe_set hi, if_pos rfl]
  refine ⟨_, dead_at h hi T, ⟨hq, hil, by rw [hp], by rw [hp], fun k hk hki => ?_⟩, hr, ?_⟩
  · have hk' : k < p.l.length := by simpa using hk
    show (pe (p.l.set i _) k).d = false
    rw [pe_set hi, if_neg (fun e => hki e.symm)]
    exact ha _ (pe_mem hk')
  · have h1 := is_at hq hil
    rw [hp] at h1
    exact h1
theorem OneD.due {p : Po} {i : Nat} {T t : Int} (h : OneD p i T) (hI : I64 t) (ht : T + 20 ≤ t) : ∃ q, nextP p t = (q, (pe p.l i).a, true) ∧ OneD q i t ∧ q.row = p.row := by
  have hd : (pe p.l i).due t = true := by unfold Pe.due; rw [h.dead, h.t]; simpa using ht
  have hn : ∀ j, j < p.l.length → j ≠ i → (pe p.l j).due t = false := fun j hj hji => due_dead (h.rest j hj hji)
  have hb : bestN p.l t p.l.length = some i := bestN_first (T := T) hd (fun j hj => hn j (by have := h.lt; omega) (by omega)) (fun j hj hjd => by
    by_cases hji : j = i
    · subst hji; exact h.t
    · rw [hn j hj hji] at hjd; cases hjd) h.lt
  refine ⟨{ p with l := p.l.set i { pe p.l i with t := t } }, by unfold nextP; rw [hb], ?_, row_set rfl⟩
  have hp : pe (p.l.set i { pe p.l i with t := t }) i = { pe p.l i with t := t } := by rw [pe_set h.lt, if_pos rfl]
  refine ⟨h.ok.set rfl hI, by simpa using h.lt, ?_, ?_, fun k hk hki => ?_⟩
  · show (pe (p.l.set i { pe p.l i with t := t }) i).d = true
    rw [hp]; exact h.dead
  · show (pe (p.l.set i { pe p.l i with t := t }) i).t = t
    rw [hp]
  · show (pe (p.l.set i { pe p.l i with t := t }) k).d = false
    rw [pe_set h.lt, if_neg (fun e => hki e.symm)]
    exact h.rest k (by simpa using hk) hki
theorem OneD.none {p : Po} {i : Nat} {T t : Int} (h : OneD p i T) (ht : t < T + 20) : ∀ e ∈ p.l, e.due t = false := by
  intro e he
  obtain ⟨k, hk, rfl⟩ := mem_pe he
  by_cases hki : k = i
  · subst hki
    unfold Pe.due
    rw [h.t]
    simp
    intro _
    omega
  · exact due_dead (h.rest k hk hki)
theorem OneD.alone {p : Po} {i : Nat} {T t : Int} (h : OneD p i T) (ht : t < T + 20) (hl : p.l.length = 1) : nextP p t = (p, 0, false) := by
  refine next_none (h.none ht) (fun e he => ?_)
  obtain ⟨k, hk, rfl⟩ := mem_pe he
  have := h.lt
  have hki : k = i := by omega
  subst hki
  exact h.dead
theorem OneD.some_ {p : Po} {i : Nat} {T t : Int} (h : OneD p i T) (ht : t < T + 20) (hl : 1 < p.l.length) : ∃ q a, nextP p t = (q, a, true) ∧ a ≠ (pe p.l i).a ∧ OneD q i T ∧ q.row = p.row := by
  have hm : 0 < (own p.l).length := by
    cases ho : own p.l with
    | nil =>
      exfalso
      have h1 := own_dead ho
      by_cases hi0 : i = 0
      · have := h1 _ (pe_mem (l := p.l) (k := 1) hl)
        rw [h.rest 1 hl (by omega)] at this
        cases this
      · have := h1 _ (pe_mem (l := p.l) (k := 0) (by omega))
        rw [h.rest 0 (by omega) (by omega)] at this
        cases this
    | cons a t => simp
  obtain ⟨nx', a, h1, h2, h3, _⟩ := next_turn (now := t) h.ok.nx (h.none ht) hm
  refine ⟨_, a, h1, ?_, ⟨{ h.ok with nx := h3 }, h.lt, h.dead, h.t, h.rest⟩, rfl⟩
  have hma : a ∈ own p.l := List.mem_of_getElem? h2
  unfold own at hma
  obtain ⟨e, he, rfl⟩ := List.mem_map.1 hma
  obtain ⟨he1, he2⟩ := List.mem_filter.1 he
  obtain ⟨k, hk, rfl⟩ := mem_pe he1
  intro heq
  have hki : k = i := by
    have hu := h.ok.un
    have hil := h.lt
    rw [pe_eq hk, pe_eq hil] at heq
    exact (List.getElem_inj (h₀ := by simpa [Po.row] using hk) (h₁ := by simpa [Po.row] using hil) hu).1 (by simpa [Po.row] using heq)
  subst hki
  rw [h.dead] at he2
  cases he2
theorem OneD.back {p : Po} {i : Nat} {T : Int} (h : OneD p i T) : ∃ q, aliveP p (pe p.l i).a = (q, 0) ∧ q.Ok ∧ (∀ e ∈ q.l, e.d = false) ∧ q.row = p.row ∧ isP q (pe p.l i).a = true := by
  have hq := aliveP_ok h.ok (pe p.l i).a
  rw [alive_at h.ok h.lt] at hq
  have hp : pe (p.l.set i { pe p.l i with d := false }) i = { pe p.l i with d := false } := by rw [pe_set h.lt, if_pos rfl]
  refine ⟨_, alive_at h.ok h.lt, hq, fun e he => ?_, row_set rfl, ?_⟩
  · obtain ⟨k, hk, rfl⟩ := mem_pe he
    show (pe (p.l.set i { pe p.l i with d := false }) k).d = false
    rw [pe_set h.lt]
    split
    · rfl
    · rename_i hki
      exact h.rest k (by simpa using hk) (fun e => hki e.symm)
  · have h1 := is_at hq (i := i) (by simpa using h.lt)
    rw [hp] at h1
    exact h1
theorem OneD.addr {p q : Po} {i : Nat} {T : Int} (h : OneD p i T) (hr : q.row = p.row) : (pe q.l i).a = (pe p.l i).a := by
  have hl : q.l.length = p.l.length := by rw [← row_len q, ← row_len p, hr]
  have h1 := row_pe (p := q) (k := i) (by rw [hl]; exact h.lt)
  rw [hr, row_pe h.lt] at h1
  injection h1 with h1
  exact h1.symm
/-- Round and round each comes. -/
theorem meets {n i c : Nat} (hi : i < n) : ∃ j, j < n ∧ (c + j) % n = i := by
  have hn : 0 < n := by omega
  refine ⟨(i + n - c % n) % n, Nat.mod_lt _ hn, ?_⟩
  have hc : c % n < n := Nat.mod_lt _ hn
  rw [Nat.add_mod, Nat.mod_mod, ← Nat.add_mod]
  have e : c + (i + n - c % n) = i + n * (c / n + 1) := by
    have h1 := Nat.div_add_mod c n
    have h2 : n * (c / n + 1) = n * (c / n) + n := by rw [Nat.mul_add, Nat.mul_one]
    omega
  rw [e, Nat.add_mul_mod_self_left, Nat.mod_eq_of_lt hi]

/-! ### All die, one behind the other -/
def dl (D : List Nat) (j : Nat) : Nat := (D[j]?).getD 0
theorem dl_snoc {D : List Nat} {d j : Nat} : dl (D ++ [d]) j = if j < D.length then dl D j else if j = D.length then d else 0 := by
  unfold dl
  rw [List.getElem?_append]
  split
  · rfl
  · split
    · rename_i h; subst h; simp
    · rename_i h1 h2
      rw [List.getElem?_eq_none (by simp; omega)]
      rfl
structure Dg (p : Po) (D : List Nat) (now : Nat) : Prop where
  ok : p.Ok
  len : D.length ≤ p.l.length
  dead : ∀ j, j < D.length → (pe p.l j).d = true ∧ (pe p.l j).t = (dl D j : Int)
  le : ∀ j, j < D.length → dl D j ≤ now
  max : now ≤ 3 * D.length
theorem Dg.more {p : Po} {D : List Nat} {now x : Nat} (h : Dg p D now) (hx : x ≤ 3) (hl : D.length < p.l.length) (h6 : p.l.length ≤ 40) :
    ∃ q, deadP p (pe p.l D.length).a ((now + x : Nat) : Int) = (q, 0) ∧ Dg q (D ++ [now + x]) (now + x) ∧ q.row = p.row := by
  have hm := h.max
  have hI : I64 ((now + x : Nat) : Int) := ⟨by omega, by omega⟩
  refine ⟨_, dead_at h.ok hl _, ⟨h.ok.set rfl hI, by simp; omega, fun j hj => ?_, fun j hj => ?_, by simp; omega⟩, row_set rfl⟩
  · simp only [List.length_append, List.length_cons, List.length_nil] at hj
    show (pe (p.l.set D.length _) j).d = true ∧ (pe (p.l.set D.length _) j).t = _
    rw [pe_set hl, dl_snoc]
    by_cases hjl : D.length = j
    · rw [if_pos hjl, if_neg (by omega), if_pos hjl.symm]
      exact ⟨rfl, rfl⟩
    · rw [if_neg hjl, if_pos (by omega)]
      exact h.dead j (by omega)
  · simp only [List.length_append, List.length_cons, List.length_nil] at hj
    rw [dl_snoc]
    by_cases hjl : j < D.length
    · rw [if_pos hjl]
      have := h.le j hjl
      omega
    · rw [if_neg hjl, if_pos (by omega)]
      exact Nat.le_refl _
structure Ds (D S k i j : Nat) : Prop where
  md : S % 20 = D % 20
  lo : D ≤ S
  hi : S ≤ k
  near : k ≤ S + 20
  now : S = k → D = k ∨ j < i
  wait : S + 20 = k → i ≤ j
structure Du (p : Po) (D : List Nat) (k i : Nat) : Prop where
  ok : p.Ok
  len : D.length = p.l.length
  st : ∀ j, j < p.l.length → (pe p.l j).d = true ∧ ∃ S : Nat, (pe p.l j).t = (S : Int) ∧ Ds (dl D j) S k i j
theorem Du.start {p : Po} {D : List Nat} {now : Nat} (h : Dg p D now) (hl : D.length = p.l.length) (h6 : D.length ≤ 6) : Du p D now 0 := by
  refine ⟨h.ok, hl, fun j hj => ?_⟩
  obtain ⟨h1, h2⟩ := h.dead j (by omega)
  have h3 := h.le j (by omega)
  have h4 := h.max
  exact ⟨h1, _, h2, ⟨rfl, Nat.le_refl _, h3, by omega, fun e => .inl e, fun e => by omega⟩⟩
theorem Du.skip {p : Po} {D : List Nat} {k i : Nat} (h : Du p D k i) (hc : k = dl D i ∨ (k - dl D i) % 20 ≠ 0) : Du p D k (i + 1) := by
  refine ⟨h.ok, h.len, fun j hj => ?_⟩
  obtain ⟨h1, S, h2, h3⟩ := h.st j hj
  obtain ⟨m1, m2, m3, m4, m5, m6⟩ := h3
  refine ⟨h1, S, h2, ⟨m1, m2, m3, m4, fun e => (m5 e).imp id (fun h => by omega), fun e => ?_⟩⟩
  have h4 := m6 e
  by_cases hji : j = i
  · subst hji
    exfalso
    rcases hc with hc | hc
    · omega
    · omega
  · omega
theorem Du.hit {p : Po} {D : List Nat} {k i : Nat} (h : Du p D k i) (hi : i < p.l.length) (hk : k ≤ 1000) (h1 : k ≠ dl D i) (h2 : (k - dl D i) % 20 = 0) :
    ∃ q, nextP p (k : Int) = (q, (pe p.l i).a, true) ∧ Du q D k (i + 1) ∧ q.row = p.row := by
  obtain ⟨g1, S, g2, g3⟩ := h.st i hi
  obtain ⟨m1, m2, m3, m4, m5, m6⟩ := g3
  have hS : S + 20 = k := by
    by_cases he : S = k
    · rcases m5 he with h5 | h5
      · exact absurd h5.symm h1
      · omega
    · omega
  have hd : ∀ j, j < p.l.length → (pe p.l j).due (k : Int) = true → (pe p.l j).t = (S : Int) ∧ i ≤ j := by
    intro j hj hdj
    obtain ⟨k1, S', k2, k3⟩ := h.st j hj
    unfold Pe.due at hdj
    rw [k2] at hdj
    simp at hdj
    have k4 := k3.near
    have k5 : S' + 20 = k := by omega
    exact ⟨by rw [k2]; congr 1; omega, k3.wait k5⟩
  have hdi : (pe p.l i).due (k : Int) = true := by
    unfold Pe.due
    rw [g1, g2]
    simp
    omega
  have hI : I64 (k : Int) := ⟨by omega, by omega⟩
  have hb : bestN p.l (k : Int) p.l.length = some i := bestN_first (T := (S : Int)) hdi (fun j hj => by
    cases hdj : (pe p.l j).due (k : Int) with
    | false => rfl
    | true => have := (hd j (by omega) hdj).2; omega) (fun j hj hdj => (hd j hj hdj).1) hi
  refine ⟨{ p with l := p.l.set i { pe p.l i with t := (k : Int) } }, by unfold nextP; rw [hb], ⟨h.ok.set rfl hI, by simpa using h.len, fun j hj => ?_⟩, row_set rfl⟩
  have hj' : j < p.l.length := by simpa using hj
  show (pe (p.l.set i _) j).d = true ∧ ∃ S : Nat, (pe (p.l.set i _) j).t = (S : Int) ∧ _
  rw [pe_set hi]
  by_cases hij : i = j
  · subst hij
    rw [if_pos rfl]
    exact ⟨g1, k, rfl, ⟨by omega, by omega, Nat.le_refl _, by omega, fun _ => .inr (Nat.lt_succ_self _), fun e => by omega⟩⟩
  · rw [if_neg hij]
    obtain ⟨k1, S', k2, k3⟩ := h.st j hj'
    obtain ⟨n1, n2, n3, n4, n5, n6⟩ := k3
    exact ⟨k1, S', k2, ⟨n1, n2, n3, n4, fun e => (n5 e).imp id (fun h => by omega), fun e => by have := n6 e; omega⟩⟩
theorem Du.none {p : Po} {D : List Nat} {k : Nat} (h : Du p D k p.l.length) : nextP p (k : Int) = (p, 0, false) ∧ Du p D (k + 1) 0 := by
  constructor
  · refine next_none (fun e he => ?_) (fun e he => ?_)
    · obtain ⟨j, hj, rfl⟩ := mem_pe he
      obtain ⟨k1, S', k2, k3⟩ := h.st j hj
      unfold Pe.due
      rw [k2]
      simp
      intro _
      have h1 := k3.near
      by_cases h2 : S' + 20 = k
      · have := k3.wait h2; omega
      · omega
    · obtain ⟨j, hj, rfl⟩ := mem_pe he
      exact (h.st j hj).1
  · refine ⟨h.ok, h.len, fun j hj => ?_⟩
    obtain ⟨k1, S', k2, k3⟩ := h.st j hj
    obtain ⟨n1, n2, n3, n4, n5, n6⟩ := k3
    refine ⟨k1, S', k2, ⟨n1, n2, by omega, ?_, fun e => by omega, fun e => Nat.zero_le _⟩⟩
    by_cases h2 : S' + 20 = k
    · have := n6 h2; omega
    · omega
end Go.Proofs.Ytkghbdikbbeoaaa
