/-
  bytes.Clone, wire's start, copies, times, edited and Of, as they landed: what they answer.
-/
import Derived.Test.YthpalepkilmpiaaWireMem
import Derived.Test.YthpalepkilmpiaaWireMath
import Derived.Test.YthpalepkilmpiaaFEager
import Derived.Lib.SliceRun
namespace Go.Proofs.Ythpalepkilmpiaa
set_option linter.unusedVariables false
set_option linter.unusedSimpArgs false
open Go.RowKit

theorem info_bytes : (Try.prog.info? 28).map (fun i => (i.zero, i.size, i.bytes)) = some (some (.slice none 0 0), 1, 24) := by kernel_rfl

/-- An append onto a row of one's own of elements of some cells each, of what a slice holds, nil or not. -/
theorem wp_append_wide {P : Program} {w : World} {o : Oper} {a : Act} {K : Act → World → Prop} {Q : Exit → Act → World → Prop} (s x : Operand) (t : TypeId)
    (ho : o.op = .call { callee := .builtin .append, args := #[s, x], argTypes := #[t, t] })
    (base : Nat) (e : TypeId) (i : TypeInfo) (z : Value) (size bytes : Nat) (ht : P.underlying t = some (.slice e)) (hi : P.info? e = some i) (hz : i.zero = some z) (hsize : i.size = size) (hby : i.bytes = bytes) (hzs : z.cells.size = size) (hsz : 0 < size)
    (v : Value) (n : Nat) (xs : List Value) (hs : a.eval s = v) (hown : w.ownsRow base e size v n xs)
    (sb : Nat) (A : Option Addr) (m c : Nat) (news : List Value) (hx : a.eval x = .slice A m c) (hm : news.length = m * size) (hh : Holds w sb A news) (h1 : ∀ u ∈ news, u.oneCell' = true)
    (h63 : n + m ≤ maxLen) (hbytes : (n + m) * bytes ≤ 140737488355328) (hbase : base ≤ w.heap.size)
    (h : ∀ A' c' w', w'.ownsRow base e size (.slice A' (n + m) c') (n + m) (xs ++ news) → w.grownBy w' v.ownBlock → K (a.put o.dst (.slice A' (n + m) c')) w') : o.wp P a w K Q := by
  have hrun : ∃ v' w', (Builtin.append_ #[t, t] o.type #[v, .slice A m c]).run P w = .ok v' w' ∧ w'.ownsRow base e size v' (n + m) (xs ++ news) ∧ w.grownBy w' v.ownBlock := by
    cases A with
    | none =>
      have h0 : news = [] := by
        cases news with
        | nil => rfl
        | cons u us =>
          obtain ⟨_, o', ho', _⟩ := hh (by simp)
          cases ho'
      subst h0
      have hm0 : m = 0 := by
        rcases Nat.mul_eq_zero.1 (show m * size = 0 by rw [← hm]; rfl) with h | h
        · exact h
        · omega
      subst hm0
      exact ⟨v, w, run_append_nothing base t o.type e i size ht hi v n xs hown c, by simpa using hown, World.grownBy.refl w _⟩
    | some ad =>
      have hc : ∀ j u, news[j]? = some u → w.cell? (ad.add j) = some u := by
        intro j u hu
        have hp : 0 < news.length := by
          cases news with
          | nil => simp at hu
          | cons _ _ => simp
        obtain ⟨_, o', ho', hcell⟩ := hh hp
        injection ho' with ho'
        subst ho'
        rw [addr_add]
        exact hcell j u hu
      obtain ⟨v', w', r1, r2, r3, _⟩ := run_append_own (P := P) w base t o.type e i z size bytes ht hi hz hsize hby hzs hsz v n xs hown ad m c news hm hc h1 h63 hbytes hbase
      exact ⟨v', w', r1, r2, r3⟩
  obtain ⟨v', w', hr, h2, h3⟩ := hrun
  obtain ⟨A', c', rfl⟩ := ownB_form h2
  unfold Oper.wp
  simp [execOp, ho, resolve, invoke, builtin, hs, hx, hr, Result.andThen]
  exact h A' c' w' h2 h3
theorem wpList_append_wide {P : Program} {w : World} {ops : Array Oper} {rest : List Oper} {o : Oper} {a : Act} {Q : Exit → Act → World → Prop} (hgd : o.guard = none) (s x : Operand) (t : TypeId)
    (ho : o.op = .call { callee := .builtin .append, args := #[s, x], argTypes := #[t, t] })
    (base : Nat) (e : TypeId) (i : TypeInfo) (z : Value) (size bytes : Nat) (ht : P.underlying t = some (.slice e)) (hi : P.info? e = some i) (hz : i.zero = some z) (hsize : i.size = size) (hby : i.bytes = bytes) (hzs : z.cells.size = size) (hsz : 0 < size)
    (v : Value) (n : Nat) (xs : List Value) (hs : a.eval s = v) (hown : w.ownsRow base e size v n xs)
    (sb : Nat) (A : Option Addr) (m c : Nat) (news : List Value) (hx : a.eval x = .slice A m c) (hm : news.length = m * size) (hh : Holds w sb A news) (h1 : ∀ u ∈ news, u.oneCell' = true)
    (h63 : n + m ≤ maxLen) (hbytes : (n + m) * bytes ≤ 140737488355328) (hbase : base ≤ w.heap.size)
    (h : ∀ A' c' w', w'.ownsRow base e size (.slice A' (n + m) c') (n + m) (xs ++ news) → w.grownBy w' v.ownBlock → wpList P ops Q rest (a.put o.dst (.slice A' (n + m) c')) w') : wpList P ops Q (o :: rest) a w :=
  wpList_plain hgd fun _ hK => wp_append_wide s x t ho base e i z size bytes ht hi hz hsize hby hzs hsz v n xs hs hown sb A m c news hx hm hh h1 h63 hbytes hbase fun A' c' w' h1 h2 => hK _ _ (h A' c' w' h1 h2)

/-- What Clone answers: the bytes, in a row of their own. -/
def ClonePost (w : World) (l : List UInt8) (e : Ending) (w' : World) : Prop :=
  ∃ A' c', e = .returned (.slice A' l.length c') ∧ w'.ownsRow w.heap.size 5 1 (.slice A' l.length c') l.length (bcs l) ∧ Below w.heap.size w w'

set_option maxRecDepth 20000 in
set_option maxHeartbeats 800000 in
theorem clone_on {w : World} {g n c : Nat} {A : Option Addr} {l : List UInt8} (h : Holds w g A (bcs l)) (hn : l.length = n) (hle : n ≤ 1000000000) : Calls Try.prog 28 #[.slice A n c] w (ClonePost w l) := by
  obtain ⟨i0, hi, hz0, hz1, hz2⟩ := info_parts info_byte
  have HN := Lib.hid hn
  have H := Lib.hid h
  clear h hn
  cases A with
  | none =>
    have hl : l = [] := by
      cases l with
      | nil => rfl
      | cons b t =>
        obtain ⟨_, o, ho, _⟩ := H.out (by simp [bcs])
        cases ho
    have hn0 : n = 0 := by rw [← HN.out, hl]; rfl
    clear HN H
    subst hl hn0
    have he : (binOp .eql 28 (.slice none 0 c) (.slice none 0 0)).run Try.prog w = .ok (.bool true) w := Lib.run_eql_slice_nil w 28 5 none 0 c 0 0 Try.underlying28
    go_enter Try.func28, Try.ntmps28
    go_wp2
    go_ret
    exact ⟨none, 0, rfl, World.ownsRow_nil _ _ _ _, Below.refl _ _⟩
  | some ad =>
    have HH : Hid (Holds (w.alloc (.cells #[] 5)) g (some ad) (bcs l)) := H.out.keep (Ch.of_below (new_below w (.cells #[] 5))) (by simp)
    have HO := Lib.hid (World.ownsRow_made (base := w.heap.size) (e := 5) (size := 1) w #[] 0 (Nat.le_refl _) (Nat.zero_le _) rfl)
    have HL : Hid ((bcs l).length = n * 1) := by show _ = _; rw [bcs_length, HN.out, Nat.mul_one]
    clear H
    have he : (binOp .eql 28 (.slice (some ad) n c) (.slice none 0 0)).run Try.prog w = .ok (.bool false) w := Lib.run_eql_slice_nil w 28 5 (some ad) n c 0 0 Try.underlying28
    go_enter Try.func28, Try.ntmps28
    go_wp2_with (first
      | (at_builtin; refine wpList_append_wide rfl (.tmp 5) (.tmp 6) 28 rfl w.heap.size 5 i0 (.int .u8 0) 1 1 Try.underlying28 hi hz0 hz1 hz2 rfl (by decide) (.slice (some ⟨w.heap.size, 0, none⟩) 0 0) 0 [] rfl HO.out g (some ad) n c (bcs l) rfl HL.out HH.out (bcs_one l) (by unfold maxLen; omega) (by omega) (by simp) ?_; intro A2 c2 w2 hown2 hgr2))
    go_ret
    have hN := HN.out
    subst hN
    exact ⟨A2, c2, rfl, by simpa using hown2, ((new_below w (.cells #[] 5)).trans ((Below.refl _ _).grown hgr2 (by simp) (fun k hk => by simp [Value.ownBlock] at hk; omega)))⟩

/-- Slices of bytes, from V on, as they come in. -/
def Pa (w : World) (V : Option Addr) (ps : List (List UInt8)) : Prop :=
  ∀ k l, ps[k]? = some l → ∃ b o g A c, V = some ⟨b, o, none⟩ ∧ w.cell? ⟨b, o + k, none⟩ = some (.slice A l.length c) ∧ Holds w g A (bcs l)
theorem Pa.step {w w' : World} {V : Option Addr} {ps : List (List UInt8)} (h : Pa w V ps) (hc : Below w.heap.size w w') : Pa w' V ps := by
  intro k l hk
  obtain ⟨b, o, g, A, c, hP, hcell, hh⟩ := h k l hk
  have hb := World.block_lt_of_cell? w _ hcell
  exact ⟨b, o, g, A, c, hP, (hc.cell hb).trans hcell, hh.keep (Ch.of_below hc) (by simp)⟩

/-- Rows of which k are copied. -/
structure Cp (w : World) (m k : Nat) (vs : List Value) (ps : List (List UInt8)) (x : World) : Prop where
  outer : x.ownsRow w.heap.size 28 1 (.slice (some ⟨w.heap.size, 0, none⟩) m m) m (vs ++ List.replicate (m - k) (.slice none 0 0))
  rows : Rs x w.heap.size vs (ps.take k)
  len : vs.length = k
  below : Below w.heap.size w x
theorem Cp.step {w x y : World} {m k : Nat} {vs : List Value} {ps : List (List UInt8)} (h : Cp w m k vs ps x) (hb : Below x.heap.size x y) : Cp w m k vs ps y :=
  ⟨own_ft (B := 0) (T := []) h.outer (Ft.of_below hb) (by simp), h.rows.ft (B' := 0) (T := []) (Ft.of_below hb) (by simp), h.len, h.below.trans (hb.mono h.below.size)⟩
theorem Cp.at {w x : World} {m k : Nat} {vs : List Value} {ps : List (List UInt8)} (h : Cp w m k vs ps x) (hk : k < m) : x.cell? ⟨w.heap.size, k, none⟩ = some (.slice none 0 0) ∧ x.frozen? ⟨w.heap.size, k, none⟩ = false := by
  refine ⟨?_, h.outer.frozenAt k⟩
  rw [h.outer.cellAt k (by omega), List.getElem?_append_right (by rw [h.len]; exact Nat.le_refl _), h.len, Nat.sub_self, List.getElem?_replicate, if_pos (by omega)]
theorem Cp.next {w x : World} {m k : Nat} {vs : List Value} {ps : List (List UInt8)} {l : List UInt8} {v : Value} (h : Cp w m k vs ps x) (hk : k < m) (hl : ps[k]? = some l) (hv : x.ownsRow w.heap.size 5 1 v l.length (bcs l)) : Cp w m (k + 1) (vs ++ [v]) ps (x.setCell ⟨w.heap.size, k, none⟩ v) := by
  obtain ⟨h1, _⟩ := h.outer.stored k v
  have hch : Ch [w.heap.size] x (x.setCell ⟨w.heap.size, k, none⟩ v) := (Ch.refl _ x).setCell (by simp) _
  have hft : Ft w.heap.size [28] x (x.setCell ⟨w.heap.size, k, none⟩ v) := Ft.of_ch hch (fun y hy _ => by
    simp at hy
    subst hy
    refine ⟨Nat.le_refl _, ?_⟩
    rcases h.outer.2 with ⟨hv, _⟩ | ⟨g, cap, cur, hv, _, hh, _⟩
    · cases hv
    · injection hv with hv
      injection hv with hv
      injection hv with hv
      subst hv
      exact ⟨_, _, _, hh, by simp⟩)
  refine ⟨?_, ?_, by simp [h.len], h.below.trans (hft.below h.below.size)⟩
  · rw [List.set_append_right _ _ (by rw [h.len]; exact Nat.le_refl _), h.len, Nat.sub_self, show m - k = (m - (k + 1)) + 1 by omega, List.replicate_succ, List.set_cons_zero] at h1
    rw [List.append_assoc]
    exact h1
  · rw [List.take_add_one, hl]
    exact (h.rows.ft hft (by decide)).snoc (own_ft hv hft (by decide))

/-- What copies answers: the rows, each in a row of its own. -/
def RowsPost (w : World) (ps : List (List UInt8)) (e : Ending) (w' : World) : Prop :=
  ∃ V vs c, e = .returned (.slice V ps.length c) ∧ Rp w' w.heap.size V ps.length c vs ps ∧ Below w.heap.size w w'

set_option maxRecDepth 20000 in
set_option maxHeartbeats 800000 in
theorem copies_on {w : World} {V : Option Addr} {m c : Nat} {ps : List (List UInt8)} (h : Pa w V ps) (hm : ps.length = m) (hle : m ≤ 1000000) (hall : ∀ p ∈ ps, p.length ≤ 1000000) : Calls Try.prog 22 #[.slice V m c] w (RowsPost w ps) := by
  obtain ⟨i0, hi, hz0, hz1, hz2⟩ := info_parts info_bytes
  have HM := Lib.hid hm
  have H := Lib.hid h
  clear h hm
  go_enter Try.func22, Try.ntmps22
  go_wp2_with (first
    | (at_make; refine wpList_make_full _ rfl (.tmp 7) (.tmp 7) 35 rfl w.heap.size 28 i0 (.slice none 0 0) 1 Try.underlying35 hi hz0 hz1 .i64 .i64 _ _ m rfl rfl rfl rfl (by rw [hz2]; omega) (by unfold maxLen; omega) (Nat.le_refl _) ?_; intro w1 hown1 hgrow1))
  have H0 : Hid (Cp w m 0 [] ps w1) := by
    refine ⟨?_, Rs.nil _ _, rfl, (Below.refl _ _).grown hgrow1 (Nat.le_refl _) (by simp)⟩
    rw [show (Value.slice none 0 0).cells = #[Value.slice none 0 0] from rfl, toList_madeCells_one, Nat.mul_one] at hown1
    exact hown1
  clear hown1 hgrow1
  go_loopw [11] (fun i wr => ∃ (k : Nat) (vs : List Value), k ≤ m ∧ i = .int .i64 k ∧ Hid (Cp w m k vs ps wr)) (fun i _ => m - (intOf i).toNat)
  case atStart => exact ⟨0, [], Nat.zero_le _, rfl, H0⟩
  case round =>
    obtain ⟨k, vs, hk, rfl, HC⟩ := hrel
    by_cases hlt : k < m
    · have hkl : k < ps.length := by rw [HM.out]; exact hlt
      obtain ⟨b, o, g, A, c', rfl, hcell, hh⟩ := H.out k (ps[k]'hkl) (List.getElem?_eq_getElem hkl)
      have hbb := World.block_lt_of_cell? w _ hcell
      have hcell' : wr.cell? ⟨b, o + k, none⟩ = some (.slice A (ps[k]'hkl).length c') := (HC.out.below.cell hbb).trans hcell
      have HH : Hid (Holds wr g A (bcs (ps[k]'hkl))) := hh.keep (F := []) (Ch.of_below HC.out.below) (by simp)
      have HA : Hid ((ps[k]'hkl).length ≤ 1000000) := hall _ (List.getElem_mem hkl)
      clear hcell hh hbb
      have HPK : Hid (ps[k]? = some (ps[k]'hkl)) := List.getElem?_eq_getElem hkl
      generalize (ps[k]'hkl) = p at *
      have hlt' : (k : Int) < (m : Int) := by omega
      go_wp2_with fail
      refine (clone_on HH.out rfl (by have := HA.out; omega)).mono ?_
      rintro e x1 ⟨A', c2, rfl, hown, hb⟩
      have H1 := Lib.hid (HC.out.step hb)
      have HO := Lib.hid hown
      obtain ⟨hc1, hf1⟩ := H1.out.at hlt
      have HS := Lib.hid HC.out.below.size
      clear hown hb HC
      go_wp2
      go_roundw
      case rel => exact ⟨k + 1, vs ++ [.slice A' p.length c2], by omega, by go_num, Lib.hid (H1.out.next hlt HPK.out (own_mono HO.out HS.out))⟩
      case measure => simp [intOf]; omega
    · have hkm : k = m := by omega
      subst hkm
      go_wp2
      go_ret
      have hM := HM.out
      subst hM
      refine ⟨_, vs, _, rfl, ⟨?_, rfl, ?_⟩, HC.out.below⟩
      · have := HC.out.outer
        rw [Nat.sub_self, List.replicate_zero, List.append_nil] at this
        exact this
      · have := HC.out.rows
        rw [List.take_length] at this
        exact this

end Go.Proofs.Ythpalepkilmpiaa
