/-
  bytes.Clone: what it answers; an append onto a row of one's own, of elements of some cells each.
-/
import Derived.Test.YtdcnmbglbopgdaaWireMem
import Derived.Test.YtdcnmbglbopgdaaFEager
import Derived.Lib.SliceRun
namespace Go.Proofs.Ytdcnmbglbopgdaa
set_option linter.unusedVariables false
set_option linter.unusedSimpArgs false
open Go.RowKit

/-- An append onto a row of one's own of elements of some cells each, of what a slice holds, nil or not. -/
theorem wp_append_wide {P : Program} {w : World} {o : Oper} {a : Act} {K : Act → World → Prop} {Q : Exit → Act → World → Prop} (s x : Operand) (t : TypeId)
    (ho : o.op = .call { callee := .builtin .append, args := #[s, x], argTypes := #[t, t] })
    (base : Nat) (e : TypeId) (i : TypeInfo) (z : Value) (size bytes : Nat) (ht : P.underlying t = some (.slice e)) (hi : P.info? e = some i) (hz : i.zero = some z) (hsize : i.size = size) (hby : i.bytes = bytes) (hzs : z.cells.size = size) (hsz : 0 < size)
    (v : Value) (n : Nat) (xs : List Value) (hs : a.eval s = v) (hown : w.ownsRow base e size v n xs)
    (sb : Nat) (A : Option Addr) (m c : Nat) (news : List Value) (hx : a.eval x = .slice A m c) (hm : news.length = m * size) (hh : Holds w sb A news) (h1 : ∀ u ∈ news, u.oneCell' = true)
    (h63 : n + m ≤ maxLen) (hbytes : (n + m) * bytes ≤ 140737488355328) (hbase : base ≤ w.heap.size)
    (h : ∀ A' c' w', w'.ownsRow base e size (.slice A' (n + m) c') (n + m) (xs ++ news) → w.grownBy w' v.ownBlock → K (a.put o.dst (.slice A' (n + m) c')) w') : o.wp P a w K Q := by
  have hrun : ∃ v' w', (Builtin.append_ #[t, t] o.type #[v, .slice A m c]).run P w = .ok v' w' ∧ w'.ownsRow base e size v' (n + m) (xs ++ news) ∧ w.grownBy w' v.ownBlock := by
    cases A with
    | none =>
      have h0 : news = [] := by
        cases news with
        | nil => rfl
        | cons u us =>
          obtain ⟨_, o', ho', _⟩ := hh (by simp)
          cases ho'
      subst h0
      have hm0 : m = 0 := by
        rcases Nat.mul_eq_zero.1 (show m * size = 0 by rw [← hm]; rfl) with h | h
        · exact h
        · omega
      subst hm0
      exact ⟨v, w, run_append_nothing base t o.type e i size ht hi v n xs hown c, by simpa using hown, World.grownBy.refl w _⟩
    | some ad =>
      have hc : ∀ j u, news[j]? = some u → w.cell? (ad.add j) = some u := by
        intro j u hu
        have hp : 0 < news.length := by
          cases news with
          | nil => simp at hu
          | cons _ _ => simp
        obtain ⟨_, o', ho', hcell⟩ := hh hp
        injection ho' with ho'
        subst ho'
        rw [addr_add]
        exact hcell j u hu
      obtain ⟨v', w', r1, r2, r3, _⟩ := run_append_own (P := P) w base t o.type e i z size bytes ht hi hz hsize hby hzs hsz v n xs hown ad m c news hm hc h1 h63 hbytes hbase
      exact ⟨v', w', r1, r2, r3⟩
  obtain ⟨v', w', hr, h2, h3⟩ := hrun
  obtain ⟨A', c', rfl⟩ := ownB_form h2
  unfold Oper.wp
  simp [execOp, ho, resolve, invoke, builtin, hs, hx, hr, Result.andThen]
  exact h A' c' w' h2 h3
theorem wpList_append_wide {P : Program} {w : World} {ops : Array Oper} {rest : List Oper} {o : Oper} {a : Act} {Q : Exit → Act → World → Prop} (hgd : o.guard = none) (s x : Operand) (t : TypeId)
    (ho : o.op = .call { callee := .builtin .append, args := #[s, x], argTypes := #[t, t] })
    (base : Nat) (e : TypeId) (i : TypeInfo) (z : Value) (size bytes : Nat) (ht : P.underlying t = some (.slice e)) (hi : P.info? e = some i) (hz : i.zero = some z) (hsize : i.size = size) (hby : i.bytes = bytes) (hzs : z.cells.size = size) (hsz : 0 < size)
    (v : Value) (n : Nat) (xs : List Value) (hs : a.eval s = v) (hown : w.ownsRow base e size v n xs)
    (sb : Nat) (A : Option Addr) (m c : Nat) (news : List Value) (hx : a.eval x = .slice A m c) (hm : news.length = m * size) (hh : Holds w sb A news) (h1 : ∀ u ∈ news, u.oneCell' = true)
    (h63 : n + m ≤ maxLen) (hbytes : (n + m) * bytes ≤ 140737488355328) (hbase : base ≤ w.heap.size)
    (h : ∀ A' c' w', w'.ownsRow base e size (.slice A' (n + m) c') (n + m) (xs ++ news) → w.grownBy w' v.ownBlock → wpList P ops Q rest (a.put o.dst (.slice A' (n + m) c')) w') : wpList P ops Q (o :: rest) a w :=
  wpList_plain hgd fun _ hK => wp_append_wide s x t ho base e i z size bytes ht hi hz hsize hby hzs hsz v n xs hs hown sb A m c news hx hm hh h1 h63 hbytes hbase fun A' c' w' h1 h2 => hK _ _ (h A' c' w' h1 h2)

/-- What Clone answers: the bytes, in a row of their own. -/
def ClonePost (w : World) (l : List UInt8) (e : Ending) (w' : World) : Prop :=
  ∃ A' c', e = .returned (.slice A' l.length c') ∧ w'.ownsRow w.heap.size 5 1 (.slice A' l.length c') l.length (bcs l) ∧ Below w.heap.size w w'

set_option maxRecDepth 20000 in
set_option maxHeartbeats 800000 in
theorem clone_on {w : World} {g n c : Nat} {A : Option Addr} {l : List UInt8} (h : Holds w g A (bcs l)) (hn : l.length = n) (hle : n ≤ 1000000000) : Calls Try.prog 66 #[.slice A n c] w (ClonePost w l) := by
  obtain ⟨i0, hi, hz0, hz1, hz2⟩ := info_parts info_byte
  have HN := Lib.hid hn
  have H := Lib.hid h
  clear h hn
  cases A with
  | none =>
    have hl : l = [] := by
      cases l with
      | nil => rfl
      | cons b t =>
        obtain ⟨_, o, ho, _⟩ := H.out (by simp [bcs])
        cases ho
    have hn0 : n = 0 := by rw [← HN.out, hl]; rfl
    clear HN H
    subst hl hn0
    have he : (binOp .eql 34 (.slice none 0 c) (.slice none 0 0)).run Try.prog w = .ok (.bool true) w := Lib.run_eql_slice_nil w 34 5 none 0 c 0 0 Try.underlying34
    go_enter Try.func66, Try.ntmps66
    go_wp2
    go_ret
    exact ⟨none, 0, rfl, World.ownsRow_nil _ _ _ _, Below.refl _ _⟩
  | some ad =>
    have HH : Hid (Holds (w.alloc (.cells #[] 5)) g (some ad) (bcs l)) := H.out.keep (Ch.of_below (new_below w (.cells #[] 5))) (by simp)
    have HO := Lib.hid (World.ownsRow_made (base := w.heap.size) (e := 5) (size := 1) w #[] 0 (Nat.le_refl _) (Nat.zero_le _) rfl)
    have HL : Hid ((bcs l).length = n * 1) := by show _ = _; rw [bcs_length, HN.out, Nat.mul_one]
    clear H
    have he : (binOp .eql 34 (.slice (some ad) n c) (.slice none 0 0)).run Try.prog w = .ok (.bool false) w := Lib.run_eql_slice_nil w 34 5 (some ad) n c 0 0 Try.underlying34
    go_enter Try.func66, Try.ntmps66
    go_wp2_with (first
      | (at_builtin; refine wpList_append_wide rfl (.tmp 5) (.tmp 6) 34 rfl w.heap.size 5 i0 (.int .u8 0) 1 1 Try.underlying34 hi hz0 hz1 hz2 rfl (by decide) (.slice (some ⟨w.heap.size, 0, none⟩) 0 0) 0 [] rfl HO.out g (some ad) n c (bcs l) rfl HL.out HH.out (bcs_one l) (by unfold maxLen; omega) (by omega) (by simp) ?_; intro A2 c2 w2 hown2 hgr2))
    go_ret
    have hN := HN.out
    subst hN
    exact ⟨A2, c2, rfl, by simpa using hown2, ((new_below w (.cells #[] 5)).trans ((Below.refl _ _).grown hgr2 (by simp) (fun k hk => by simp [Value.ownBlock] at hk; omega)))⟩

end Go.Proofs.Ytdcnmbglbopgdaa
