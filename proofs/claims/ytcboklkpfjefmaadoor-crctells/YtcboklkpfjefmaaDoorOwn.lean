/-
  Rows of a call's own: an append onto one, of what a slice holds; slices of bytes in rows of their own.
-/
import Derived.Test.YtcboklkpfjefmaaDoorCrcShown
import Derived.Laws.AppendOwnNone
namespace Go.Proofs.YtcboklkpfjefmaaDoor
set_option linter.unusedVariables false
set_option linter.unusedSimpArgs false
open Go.RowKit

theorem info_bytes : (Tryd.prog.info? 23).map (fun i => (i.zero, i.size, i.bytes)) = some (some (.slice none 0 0), 1, 24) := by kernel_rfl

/-- An append of nothing from a nil slice, whatever capacity it says. -/
theorem run_append_nothing {P : Program} {w : World} (base : Nat) (t ty e : TypeId) (i : TypeInfo) (size : Nat) (ht : P.underlying t = some (.slice e)) (hi : P.info? e = some i)
    (v : Value) (n : Nat) (xs : List Value) (hown : w.ownsRow base e size v n xs) (c : Nat) : (Builtin.append_ #[t, t] ty #[v, .slice none 0 c]).run P w = .ok v w := by
  rcases hown.2 with ⟨rfl, rfl⟩ | ⟨g, cap, cur, rfl, _, _, hnc, _⟩ <;> simp [Builtin.append_, run_underlying ht, sizeOf, typeInfo, hi, Builtin.lenOf, Builtin.firstCells, storeCells]
  intro hh
  omega

theorem own_form {w : World} {base n size : Nat} {e : TypeId} {v : Value} {xs : List Value} (h : w.ownsRow base e size v n xs) : ∃ A c, v = .slice A n c := by
  rcases h.2 with ⟨rfl, rfl⟩ | ⟨g, cap, cur, rfl, _⟩
  · exact ⟨none, 0, rfl⟩
  · exact ⟨_, cap, rfl⟩

/-- An append onto a row of one's own, of what a slice holds, nil or not: the new value is a slice of so many. -/
theorem wp_append_holds {P : Program} {w : World} {o : Oper} {a : Act} {K : Act → World → Prop} {Q : Exit → Act → World → Prop} (s x : Operand) (t : TypeId)
    (ho : o.op = .call { callee := .builtin .append, args := #[s, x], argTypes := #[t, t] })
    (e : TypeId) (i : TypeInfo) (z : Value) (bytes : Nat) (ht : P.underlying t = some (.slice e)) (hi : P.info? e = some i) (hz : i.zero = some z) (hsize : i.size = 1) (hby : i.bytes = bytes) (hzs : z.cells.size = 1)
    (v : Value) (n : Nat) (xs : List Value) (hs : a.eval s = v) (hown : w.ownsRow 0 e 1 v n xs)
    (sb : Nat) (A : Option Addr) (m c : Nat) (news : List Value) (hx : a.eval x = .slice A m c) (hm : news.length = m) (hh : Holds w sb A news) (h1 : ∀ u ∈ news, u.oneCell' = true)
    (h63 : n + m ≤ maxLen) (hbytes : (n + m) * bytes ≤ 140737488355328)
    (h : ∀ A' c' w', w'.ownsRow 0 e 1 (.slice A' (n + m) c') (n + m) (xs ++ news) → w.grownBy w' v.ownBlock → ((Value.slice A' (n + m) c').ownBlock = v.ownBlock ∨ (Value.slice A' (n + m) c').ownBlock = some w.heap.size) →
      K (a.put o.dst (.slice A' (n + m) c')) w') : o.wp P a w K Q := by
  have hrun : ∃ v' w', (Builtin.append_ #[t, t] o.type #[v, .slice A m c]).run P w = .ok v' w' ∧ w'.ownsRow 0 e 1 v' (n + m) (xs ++ news) ∧ w.grownBy w' v.ownBlock ∧ (v'.ownBlock = v.ownBlock ∨ v'.ownBlock = some w.heap.size) := by
    cases A with
    | none =>
      have h0 : news = [] := by
        cases news with
        | nil => rfl
        | cons u us =>
          obtain ⟨_, o', ho', _⟩ := hh (by simp)
          cases ho'
      subst h0
      simp at hm
      subst hm
      exact ⟨v, w, run_append_nothing 0 t o.type e i 1 ht hi v n xs hown c, by simpa using hown, World.grownBy.refl w _, .inl rfl⟩
    | some ad =>
      have hc : ∀ j u, news[j]? = some u → w.cell? (ad.add j) = some u := by
        intro j u hu
        have hp : 0 < news.length := by
          cases news with
          | nil => simp at hu
          | cons _ _ => simp
        obtain ⟨_, o', ho', hcell⟩ := hh hp
        injection ho' with ho'
        subst ho'
        rw [addr_add]
        exact hcell j u hu
      obtain ⟨v', w', r1, r2, r3, _, r5⟩ := run_append_own_at (P := P) w 0 t o.type e i z 1 bytes ht hi hz hsize hby hzs (by omega) v n xs hown ad m c news (by omega) hc h1 h63 hbytes (Nat.zero_le _)
      exact ⟨v', w', r1, r2, r3, r5⟩
  obtain ⟨v', w', hr, h2, h3, h4⟩ := hrun
  obtain ⟨A', c', rfl⟩ := own_form h2
  unfold Oper.wp
  simp [execOp, ho, resolve, invoke, builtin, hs, hx, hr, Result.andThen]
  exact h A' c' w' h2 h3 h4

theorem wpList_append_holds {P : Program} {w : World} {ops : Array Oper} {rest : List Oper} {o : Oper} {a : Act} {Q : Exit → Act → World → Prop} (hgd : o.guard = none) (s x : Operand) (t : TypeId)
    (ho : o.op = .call { callee := .builtin .append, args := #[s, x], argTypes := #[t, t] })
    (e : TypeId) (i : TypeInfo) (z : Value) (bytes : Nat) (ht : P.underlying t = some (.slice e)) (hi : P.info? e = some i) (hz : i.zero = some z) (hsize : i.size = 1) (hby : i.bytes = bytes) (hzs : z.cells.size = 1)
    (v : Value) (n : Nat) (xs : List Value) (hs : a.eval s = v) (hown : w.ownsRow 0 e 1 v n xs)
    (sb : Nat) (A : Option Addr) (m c : Nat) (news : List Value) (hx : a.eval x = .slice A m c) (hm : news.length = m) (hh : Holds w sb A news) (h1 : ∀ u ∈ news, u.oneCell' = true)
    (h63 : n + m ≤ maxLen) (hbytes : (n + m) * bytes ≤ 140737488355328)
    (h : ∀ A' c' w', w'.ownsRow 0 e 1 (.slice A' (n + m) c') (n + m) (xs ++ news) → w.grownBy w' v.ownBlock → ((Value.slice A' (n + m) c').ownBlock = v.ownBlock ∨ (Value.slice A' (n + m) c').ownBlock = some w.heap.size) →
      wpList P ops Q rest (a.put o.dst (.slice A' (n + m) c')) w') : wpList P ops Q (o :: rest) a w :=
  wpList_plain hgd fun _ hK => wp_append_holds s x t ho e i z bytes ht hi hz hsize hby hzs v n xs hs hown sb A m c news hx hm hh h1 h63 hbytes fun A' c' w' h1 h2 h3 => hK _ _ (h A' c' w' h1 h2 h3)

theorem own_ne {w : World} {W g n : Nat} {v : Value} {xs : List Value} {cs : Array Value} {t e : TypeId} (h1 : w.heap[W]? = some (.cells cs t (0, 0))) (h2 : w.ownsRow 0 e 1 v n xs) (h3 : v.ownBlock = some g) (ht : e ≠ t) : g ≠ W := by
  rintro rfl
  rcases h2.2 with ⟨rfl, _⟩ | ⟨g', cap, cur, rfl, _, hh, _⟩
  · simp [Value.ownBlock] at h3
  · simp [Value.ownBlock] at h3
    subst h3
    rw [h1] at hh
    injection hh with hh
    injection hh with _ hh
    exact ht hh.symm

theorem own_holds {w : World} {n g c : Nat} {A : Option Addr} {e : TypeId} {xs : List Value} (h : w.ownsRow 0 e 1 (.slice A n c) n xs) (hg : ∀ h, (Value.slice A n c).ownBlock = some h → h = g) : Holds w g A xs := by
  intro hp
  rcases h.2 with ⟨_, rfl⟩ | ⟨g', cap, cur, hv, _, hh, h1, h2, h3, h4⟩
  · have := h.1; omega
  · injection hv with hA hn hc
    subst hA
    have hgg := hg g' rfl
    subst hgg
    refine ⟨(Array.getElem?_eq_some_iff.1 hh).1, 0, rfl, fun j u hu => ?_⟩
    rw [← h4, List.getElem?_take] at hu
    split at hu
    · simp [World.cell?, hh]
      simpa using hu
    · cases hu

/-- Slices of bytes as they come in. -/
def InParts (w : World) (P : Option Addr) (ps : List (List UInt8)) : Prop :=
  ∀ k l, ps[k]? = some l → ∃ b o g A c, P = some ⟨b, o, none⟩ ∧ b < w.heap.size ∧ w.cell? ⟨b, o + k, none⟩ = some (.slice A l.length c) ∧ l.length ≤ c ∧ c ≤ 9223372036854775807 ∧ Holds w g A (bcs l)

theorem InParts.below {w w' : World} {P : Option Addr} {ps : List (List UInt8)} (h : InParts w P ps) (hb : Below w.heap.size w w') : InParts w' P ps := by
  intro k l hk
  obtain ⟨b, o, g, A, c, hP, hbw, hcell, h1, h2, hh⟩ := h k l hk
  exact ⟨b, o, g, A, c, hP, Nat.lt_of_lt_of_le hbw hb.size, (hb.cell (p := ⟨b, o + k, none⟩) hbw).trans hcell, h1, h2, hh.keep (Ch.of_below hb) (by simp)⟩

/-- Slices of bytes that a call has made, in rows of their own from block B on. -/
structure Rows_ (w : World) (B : Nat) (vs : List Value) (ps : List (List UInt8)) : Prop where
  len : vs.length = ps.length
  own : ∀ (j : Nat) (v : Value) (l : List UInt8), vs[j]? = some v → ps[j]? = some l → w.ownsRow 0 5 1 v l.length (bcs l) ∧ ∀ h, v.ownBlock = some h → B ≤ h

theorem own_far {w w' : World} {row : Option Nat} {v v' : Value} {n n' : Nat} {xs xs' : List Value} {e e' : TypeId} (hg : w.grownBy w' row) (hrow : row = v'.ownBlock) (h : w.ownsRow 0 e 1 v n xs) (h' : w.ownsRow 0 e' 1 v' n' xs') (hne : e ≠ e') : w'.ownsRow 0 e 1 v n xs := by
  refine h.kept hg ?_
  cases hv : v.ownBlock with
  | none => exact .inl rfl
  | some g =>
    right
    rw [hrow]
    intro he
    rcases h'.2 with ⟨rfl, _⟩ | ⟨g', cap', cur', rfl, _, hh', _⟩
    · simp [Value.ownBlock] at he
    · simp [Value.ownBlock] at he
      exact own_ne (W := g) (g := g) (by rw [he]; exact hh') h hv hne rfl

theorem Rows_.keep {w w' : World} {B : Nat} {vs : List Value} {ps : List (List UInt8)} (h : Rows_ w B vs ps) (hk : ∀ v n xs, w.ownsRow 0 5 1 v n xs → (∀ g, v.ownBlock = some g → B ≤ g) → w'.ownsRow 0 5 1 v n xs) : Rows_ w' B vs ps :=
  ⟨h.len, fun j v l hv hl => ⟨hk v _ _ (h.own j v l hv hl).1 (h.own j v l hv hl).2, (h.own j v l hv hl).2⟩⟩
theorem Rows_.snoc {w : World} {B : Nat} {vs : List Value} {ps : List (List UInt8)} (h : Rows_ w B vs ps) {v : Value} {l : List UInt8} (hv : w.ownsRow 0 5 1 v l.length (bcs l)) (hB : ∀ g, v.ownBlock = some g → B ≤ g) : Rows_ w B (vs ++ [v]) (ps ++ [l]) := by
  refine ⟨by simp [h.len], fun j u m hu hm => ?_⟩
  rcases Nat.lt_or_ge j vs.length with hj | hj
  · rw [List.getElem?_append_left hj] at hu
    rw [List.getElem?_append_left (by rw [← h.len]; exact hj)] at hm
    exact h.own j u m hu hm
  · rw [List.getElem?_append_right hj] at hu
    rw [List.getElem?_append_right (by rw [← h.len]; exact hj)] at hm
    rw [h.len] at hu
    cases hk : j - ps.length with
    | zero =>
      rw [hk] at hu hm
      simp at hu hm
      subst hu hm
      exact ⟨hv, hB⟩
    | succ k => rw [hk] at hu; simp at hu

/-- A slice of them. -/
structure OwnP (w : World) (B : Nat) (V : Option Addr) (c : Nat) (ps : List (List UInt8)) (vs : List Value) : Prop where
  outer : w.ownsRow 0 23 1 (.slice V ps.length c) ps.length vs
  from_ : ∀ h, (Value.slice V ps.length c).ownBlock = some h → B ≤ h
  rows : Rows_ w B vs ps

/-- What the call owns stays, as long as nothing from B on turns but one row of bytes that is not theirs, or one row of slices. -/
theorem OwnP.alloc {w : World} {B : Nat} {V : Option Addr} {c : Nat} {ps : List (List UInt8)} {vs : List Value} (h : OwnP w B V c ps vs) (o : Obj) : OwnP (w.alloc o) B V c ps vs :=
  ⟨h.outer.alloc o, h.from_, h.rows.keep fun _ _ _ hv _ => hv.alloc o⟩
theorem OwnP.drew {w : World} {B : Nat} {V : Option Addr} {c : Nat} {ps : List (List UInt8)} {vs : List Value} (h : OwnP w B V c ps vs) : OwnP w.drew B V c ps vs :=
  ⟨h.outer, h.from_, h.rows.keep fun _ _ _ hv _ => hv⟩
/-- A change that keeps to blocks that are none of theirs. -/
theorem own_ch {F : List Nat} {w w' : World} {v : Value} {n : Nat} {xs : List Value} {e : TypeId} (h : w.ownsRow 0 e 1 v n xs) (hc : Ch F w w') (hF : ∀ g, v.ownBlock = some g → g ∉ F) : w'.ownsRow 0 e 1 v n xs := by
  refine ⟨h.1, ?_⟩
  rcases h.2 with hn | ⟨g, cap, cur, rfl, hb, hh, r⟩
  · exact .inl hn
  · exact .inr ⟨g, cap, cur, rfl, hb, (hc.block g (Array.getElem?_eq_some_iff.1 hh).1 (hF g rfl)).trans hh, r⟩
theorem OwnP.keep {F : List Nat} {w w' : World} {B : Nat} {V : Option Addr} {c : Nat} {ps : List (List UInt8)} {vs : List Value} (h : OwnP w B V c ps vs) (hc : Ch F w w') (hF : ∀ x ∈ F, x < B ∨ w.heap.size ≤ x) : OwnP w' B V c ps vs := by
  have key : ∀ (v : Value) (n : Nat) (xs : List Value) (e : TypeId), w.ownsRow 0 e 1 v n xs → (∀ g, v.ownBlock = some g → B ≤ g) → w'.ownsRow 0 e 1 v n xs := fun v n xs e hv hB =>
    own_ch hv hc (fun g hg hm => by have h1 := hF g hm; have h2 := hB g hg; have h3 := (hv.lt g hg).2; omega)
  exact ⟨key _ _ _ _ h.outer h.from_, h.from_, h.rows.keep fun v n xs hv hB => key v n xs _ hv hB⟩

theorem convert_own {w : World} {n c : Nat} {A : Option Addr} {l : List UInt8} (h : w.ownsRow 0 5 1 (.slice A n c) n (bcs l)) (hn : l.length = n) :
    (convert 23 9 (.slice A n c)).run Tryd.prog w = .ok (.string ⟨l.toArray⟩) w := by
  cases A with
  | none =>
    have hl0 : n = 0 := by
      rcases h.2 with ⟨_, h0⟩ | ⟨g', _, _, hx, _⟩
      · exact h0
      · cases hx
    have hl : l = [] := List.eq_nil_of_length_eq_zero (by omega)
    subst hl
    exact convert_holds (Holds.nil w 0 none) hn
  | some ad => exact convert_holds (own_holds (g := ad.block) h (by intro h hh; simp [Value.ownBlock] at hh; exact hh.symm)) hn

theorem own_cap {w : World} {n c : Nat} {A : Option Addr} {e : TypeId} {xs : List Value} (h : w.ownsRow 0 e 1 (.slice A n c) n xs) : n ≤ c := by
  rcases h.2 with ⟨h1, h0⟩ | ⟨g', cap, _, hx, _, _, hnc, _⟩
  · omega
  · injection hx with _ _ hc
    omega
theorem own_max {w : World} {n c : Nat} {A : Option Addr} {e : TypeId} {xs : List Value} (h : w.ownsRow 0 e 1 (.slice A n c) n xs) : c ≤ maxLen := by
  rcases h.2 with ⟨h1, _⟩ | ⟨g', cap, _, hx, _, _, _, hm, _⟩
  · injection h1 with _ _ hc
    rw [hc]; exact Nat.zero_le _
  · injection hx with _ _ hc
    rw [hc]; exact hm

theorem cat_two (a b : List UInt8) : ByteArray.mk a.toArray ++ ByteArray.mk b.toArray = ByteArray.mk (a ++ b).toArray := by
  apply ByteArray.ext
  simp
theorem cat_flat (cs : List (List UInt8)) (p : List UInt8) : ByteArray.mk cs.flatten.toArray ++ ByteArray.mk p.toArray = ByteArray.mk (cs ++ [p]).flatten.toArray := by
  apply ByteArray.ext
  simp

/-- As parts of a call: what they are. -/
theorem OwnP.parts {w : World} {B : Nat} {V : Option Addr} {c : Nat} {ps : List (List UInt8)} {vs : List Value} (h : OwnP w B V c ps vs) : PartsAt w V ps := by
  intro k l hk
  have hkl : k < ps.length := by
    rcases Nat.lt_or_ge k ps.length with h | h
    · exact h
    · rw [List.getElem?_eq_none h] at hk; cases hk
  have hkv : k < vs.length := by rw [h.rows.len]; exact hkl
  obtain ⟨hv, hB⟩ := h.rows.own k vs[k] l (List.getElem?_eq_getElem hkv) hk
  obtain ⟨A, c', hform⟩ := own_form hv
  rcases h.outer.2 with ⟨_, h0⟩ | ⟨g, cap, cur, hV, _, hh, h1, h2, h3, h4⟩
  · omega
  · injection hV with hV _ _
    have hcell : w.cell? ⟨g, 0 + k, none⟩ = some (.slice A l.length c') := by
      have h5 : vs[k]? = some (.slice A l.length c') := by rw [List.getElem?_eq_getElem hkv, hform]
      rw [← h4, List.getElem?_take] at h5
      split at h5
      · simp only [World.cell?, hh]
        simpa using h5
      · cases h5
    rw [hform] at hv hB
    cases hA : A with
    | none =>
      subst hA
      have hl0 : l.length = 0 := by
        rcases hv.2 with ⟨_, h0⟩ | ⟨g', _, _, hx, _⟩
        · exact h0
        · cases hx
      have hl : l = [] := List.eq_nil_of_length_eq_zero hl0
      subst hl
      exact ⟨g, 0, g, none, c', hV, hcell, Holds.nil _ _ _⟩
    | some ad =>
      subst hA
      exact ⟨g, 0, ad.block, some ad, c', hV, hcell, own_holds hv (by intro h hh; simp [Value.ownBlock] at hh; exact hh.symm)⟩

/-- A slice of bytes of one's own, at B or behind. -/
structure Own1 (w : World) (B : Nat) (A : Option Addr) (n c : Nat) (l : List UInt8) : Prop where
  own : w.ownsRow 0 5 1 (.slice A n c) n (bcs l)
  from_ : ∀ h, (Value.slice A n c).ownBlock = some h → B ≤ h
  len : l.length = n
theorem Own1.holds {w : World} {B : Nat} {A : Option Addr} {n c : Nat} {l : List UInt8} (h : Own1 w B A n c l) : ∃ g, Holds w g A (bcs l) ∧ (0 < n → B ≤ g) := by
  cases A with
  | none =>
    have hl0 : n = 0 := by
      rcases h.own.2 with ⟨_, h0⟩ | ⟨g', _, _, hx, _⟩
      · exact h0
      · cases hx
    have hl : l = [] := List.eq_nil_of_length_eq_zero (by rw [h.len]; exact hl0)
    subst hl
    exact ⟨0, Holds.nil _ _ _, fun hp => by omega⟩
  | some ad => exact ⟨ad.block, own_holds h.own (by intro h hh; simp [Value.ownBlock] at hh; exact hh.symm), fun _ => h.from_ _ rfl⟩
theorem Own1.cap {w : World} {B : Nat} {A : Option Addr} {n c : Nat} {l : List UInt8} (h : Own1 w B A n c l) : n ≤ c := own_cap h.own

end Go.Proofs.YtcboklkpfjefmaaDoor
