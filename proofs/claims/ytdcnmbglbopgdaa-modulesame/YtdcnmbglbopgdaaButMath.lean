/-
  What four buttons do, by the document (chapter 10), over plain data; what the laws of layer 10 need of it; the document's own answer's events. Nothing of the program is named here.
-/
import Derived.Test.YtdcnmbglbopgdaaFBase
namespace Go.Proofs.Ytdcnmbglbopgdaa
set_option linter.unusedVariables false
set_option linter.unusedSimpArgs false

def BI (t : Int) : Prop := -9223372036854775808 ≤ t ∧ t ≤ 9223372036854775807
/-- A button: is it down, since when, was it told since. One that is up has neither. -/
structure Bt where
  d : Bool
  s : Int
  t : Bool
def bt0 : Bt := ⟨false, 0, false⟩
abbrev Bs := Nat → Bt
def zeroB : Bs := fun _ => bt0
def upB (f : Bs) (n : Nat) (b : Bt) : Bs := fun k => if k = n then b else f k
def Bt.set (e : Bt) (d : Bool) (now : Int) : Bt := if d then (if e.d then e else ⟨true, now, false⟩) else bt0
def Bt.due (e : Bt) (now : Int) : Bool := e.d && !e.t && decide (e.s + 3 ≤ now)
def Bt.tell (e : Bt) (now : Int) : Bt := if e.due now then { e with t := true } else e
def setB (f : Bs) (b : Int) (d : Bool) (now : Int) : Bs × Int := if 0 ≤ b ∧ b ≤ 3 then (upB f b.toNat ((f b.toNat).set d now), 0) else (f, 1)
/-- Of the first n those that are due. -/
def dueL (f : Bs) (now : Int) : Nat → List Nat
  | 0 => []
  | n + 1 => if (f n).due now then dueL f now n ++ [n] else dueL f now n
def pressB (f : Bs) (now : Int) : Bs × List Nat := (fun k => (f k).tell now, dueL f now 4)
def downB (f : Bs) (b : Int) : Bool := decide (0 ≤ b ∧ b ≤ 3) && (f b.toNat).d
def BOk (f : Bs) : Prop := ∀ k, BI (f k).s

theorem bi0 : BI 0 := by unfold BI; omega
theorem zeroB_ok : BOk zeroB := fun _ => bi0
theorem Bt.set_ok {e : Bt} (h : BI e.s) {d : Bool} {now : Int} (hn : BI now) : BI (e.set d now).s := by
  unfold Bt.set
  split
  · split
    · exact h
    · exact hn
  · exact bi0
theorem upB_ok {f : Bs} (h : BOk f) {n : Nat} {b : Bt} (hb : BI b.s) : BOk (upB f n b) := by
  intro k
  unfold upB
  split
  · exact hb
  · exact h k
theorem setB_ok {f : Bs} (h : BOk f) (b : Int) (d : Bool) {now : Int} (hn : BI now) : BOk (setB f b d now).1 := by
  unfold setB
  split
  · exact upB_ok h (Bt.set_ok (h _) hn)
  · exact h
theorem tell_s (e : Bt) (now : Int) : (e.tell now).s = e.s := by unfold Bt.tell; split <;> rfl
theorem pressB_ok {f : Bs} (h : BOk f) (now : Int) : BOk (pressB f now).1 := fun k => by
  show BI ((f k).tell now).s
  rw [tell_s]
  exact h k
theorem setB_in {f : Bs} {b : Int} (h0 : 0 ≤ b) (h3 : b ≤ 3) (d : Bool) (now : Int) : setB f b d now = (upB f b.toNat ((f b.toNat).set d now), 0) := if_pos ⟨h0, h3⟩
theorem setB_out {f : Bs} {b : Int} (h : ¬ (0 ≤ b ∧ b ≤ 3)) (d : Bool) (now : Int) : setB f b d now = (f, 1) := if_neg h
theorem setB_nat {f : Bs} {n : Nat} (h : n ≤ 3) (d : Bool) (now : Int) : setB f (n : Int) d now = (upB f n ((f n).set d now), 0) := by
  rw [setB_in (by omega) (by omega)]
  simp
theorem dueL_len (f : Bs) (now : Int) : ∀ n, (dueL f now n).length ≤ n
  | 0 => Nat.le_refl _
  | n + 1 => by
    have := dueL_len f now n
    unfold dueL
    split
    · simp; omega
    · omega
theorem dueL_lt {f : Bs} {now : Int} : ∀ {n k : Nat}, k ∈ dueL f now n → k < n
  | 0, k, h => by cases h
  | n + 1, k, h => by
    unfold dueL at h
    split at h
    · rcases List.mem_append.1 h with h | h
      · have := dueL_lt h; omega
      · simp at h; omega
    · have := dueL_lt h; omega
theorem dueL_congr {f h : Bs} {now now' : Int} : ∀ {n : Nat}, (∀ k, k < n → (f k).due now = (h k).due now') → dueL f now n = dueL h now' n
  | 0, _ => rfl
  | n + 1, hk => by
    unfold dueL
    rw [hk n (by omega), dueL_congr (fun k h => hk k (by omega))]
/-! ### One button alone -/
def oneB (n : Nat) (b : Bt) : Bs := fun k => if k = n then b else bt0
theorem oneB_zero (n : Nat) : oneB n bt0 = zeroB := by funext k; unfold oneB zeroB; split <;> rfl
theorem due0 (now : Int) : bt0.due now = false := rfl
theorem oneB_at (n : Nat) (b : Bt) : oneB n b n = b := if_pos rfl
theorem one_set {n : Nat} (hn : n ≤ 3) (b : Bt) (d : Bool) (now : Int) : setB (oneB n b) (n : Int) d now = (oneB n (b.set d now), 0) := by
  rw [setB_nat hn, oneB_at]
  congr 1
  funext k
  unfold upB oneB
  split <;> rfl
theorem one_press {n : Nat} (hn : n ≤ 3) (b : Bt) (now : Int) : pressB (oneB n b) now = (oneB n (b.tell now), if b.due now then [n] else []) := by
  unfold pressB
  congr 1
  · funext k
    unfold oneB
    split
    · rfl
    · rfl
  · have key : ∀ m, dueL (oneB n b) now m = if n < m ∧ b.due now = true then [n] else [] := by
      intro m
      induction m with
      | zero => simp [dueL]
      | succ m ih =>
        unfold dueL
        rw [ih]
        by_cases hm : m = n
        · subst hm
          rw [oneB_at]
          cases hb : b.due now <;> simp
        · have h1 : oneB n b m = bt0 := if_neg hm
          rw [h1, due0]
          have h2 : n < m + 1 ↔ n < m := by omega
          simp [h2]
    rw [key 4]
    have : n < 4 := by omega
    simp [this]
/-! ### All as much later -/
def Bt.later (e : Bt) (by' : Int) : Bt := if e.d then { e with s := e.s + by' } else bt0
theorem later_set (e : Bt) (m : Int) (d : Bool) (now : Int) : (e.later m).set d (now + m) = (e.set d now).later m := by
  unfold Bt.later Bt.set
  cases hd : e.d <;> cases d <;> simp [hd, bt0]
/-- One poll of buttons and one that is m later. -/
def LaterB (m : Int) (f h : Bs) : Prop := ∀ k, h k = (f k).later m
theorem LaterB.zero (m : Int) : LaterB m zeroB zeroB := fun _ => rfl
theorem LaterB.set {m : Int} {f h : Bs} (hl : LaterB m f h) (b : Int) (d : Bool) (now : Int) : (setB h b d (now + m)).2 = (setB f b d now).2 ∧ LaterB m (setB f b d now).1 (setB h b d (now + m)).1 := by
  unfold setB
  split
  · refine ⟨rfl, fun k => ?_⟩
    show upB h _ _ k = (upB f _ _ k).later m
    unfold upB
    split
    · rw [hl, later_set]
    · exact hl k
  · exact ⟨rfl, hl⟩
/-! ### Beside one button alone -/
/-- h has of f the button n alone. -/
structure Only (n : Nat) (f h : Bs) : Prop where
  at_ : h n = f n
  off : ∀ k, k ≠ n → h k = bt0
theorem Only.zero (n : Nat) : Only n zeroB zeroB := ⟨rfl, fun _ _ => rfl⟩
theorem Only.one {n : Nat} {f h : Bs} (ho : Only n f h) : h = oneB n (f n) := by
  funext k
  unfold oneB
  split
  · rename_i hk; subst hk; exact ho.at_
  · rename_i hk; exact ho.off k hk
theorem Only.same {n : Nat} {f h : Bs} (ho : Only n f h) (hn : n ≤ 3) (d : Bool) (now : Int) : Only n (setB f (n : Int) d now).1 (setB h (n : Int) d now).1 := by
  rw [setB_nat hn, setB_nat hn]
  refine ⟨?_, fun k hk => ?_⟩
  · show upB h _ _ n = upB f _ _ n
    unfold upB
    rw [if_pos rfl, if_pos rfl, ho.at_]
  · show upB h _ _ k = _
    unfold upB
    rw [if_neg hk]
    exact ho.off k hk
theorem Only.other {n : Nat} {f h : Bs} (ho : Only n f h) {b : Int} (hb : b ≠ (n : Int)) (d : Bool) (now : Int) : Only n (setB f b d now).1 h := by
  unfold setB
  split
  · refine ⟨?_, ho.off⟩
    show h n = upB f _ _ n
    unfold upB
    rw [if_neg (by omega)]
    exact ho.at_
  · exact ho
/-! ### The document's own events -/
structure Ev where
  b : Int
  t : Bool
  d : Bool
  n : Int
def evStep (n : Int) (e : Bt) (v : Ev) : Bt := if v.b ≠ n then e else if v.t then { e with t := true } else if v.d && !e.d then ⟨v.d, v.n, false⟩ else { e with d := v.d }
def evs (l : List Ev) (n : Int) : Bt := l.foldl (evStep n) bt0
theorem evs_snoc (l : List Ev) (v : Ev) (n : Int) : evs (l ++ [v]) n = evStep n (evs l n) v := by unfold evs; rw [List.foldl_append]; rfl
theorem evStep_not {v : Ev} {n : Int} (h : v.b ≠ n) (e : Bt) : evStep n e v = e := if_pos h
/-- The same, as far as it is told. -/
structure Ali (a b : Bt) : Prop where
  d : a.d = b.d
  s : b.d = true → a.s = b.s
  t : b.d = true → a.t = b.t
theorem Ali.due {a b : Bt} (h : Ali a b) (now : Int) : a.due now = b.due now := by
  unfold Bt.due
  rw [h.d]
  cases hd : b.d with
  | false => rfl
  | true => rw [h.s hd, h.t hd]
/-- The events tell what the buttons are. -/
structure Tells (l : List Ev) (f : Bs) : Prop where
  in_ : ∀ k : Nat, k ≤ 3 → Ali (evs l (k : Int)) (f k)
  out : ∀ n : Int, ¬ (0 ≤ n ∧ n ≤ 3) → evs l n = bt0
theorem Tells.nil : Tells [] zeroB := ⟨fun _ _ => ⟨rfl, (fun h => by cases h), (fun h => by cases h)⟩, fun _ _ => rfl⟩
theorem Tells.set {l : List Ev} {f : Bs} (h : Tells l f) {b : Int} (hb : 0 ≤ b ∧ b ≤ 3) (d : Bool) (now : Int) : Tells (l ++ [⟨b, false, d, now⟩]) (setB f b d now).1 := by
  rw [setB_in hb.1 hb.2]
  refine ⟨fun k hk => ?_, fun n hn => ?_⟩
  · rw [evs_snoc]
    show Ali _ (upB f _ _ k)
    unfold upB
    by_cases hkb : k = b.toNat
    · have hbk : b = (k : Int) := by omega
      subst hbk
      have hk2 : ((k : Int)).toNat = k := by omega
      rw [if_pos hkb, hk2]
      have ha := h.in_ k hk
      unfold evStep Bt.set
      simp only [ne_eq, not_true, if_false]
      cases d with
      | false => exact ⟨rfl, (fun h => by cases h), (fun h => by cases h)⟩
      | true =>
        cases hd : (f k).d with
        | false =>
          have hd1 : (evs l (k : Int)).d = false := by rw [ha.d, hd]
          simp [hd1]
          exact ⟨rfl, fun _ => rfl, fun _ => rfl⟩
        | true =>
          have hd1 : (evs l (k : Int)).d = true := by rw [ha.d, hd]
          simp [hd1]
          exact ⟨hd.symm, fun _ => ha.s hd, fun _ => ha.t hd⟩
    · rw [if_neg hkb, evStep_not (by show b ≠ _; omega)]
      exact h.in_ k hk
  · rw [evs_snoc, evStep_not (by show b ≠ _; omega)]
    exact h.out n hn
theorem Tells.down {l : List Ev} {f : Bs} (h : Tells l f) (b : Int) : ((evs l b).d && decide (0 ≤ b ∧ b ≤ 3)) = downB f b := by
  unfold downB
  by_cases hb : 0 ≤ b ∧ b ≤ 3
  · have h1 := (h.in_ b.toNat (by omega)).d
    rw [show ((b.toNat : Nat) : Int) = b by omega] at h1
    rw [h1, decide_eq_true hb]
    simp
  · rw [decide_eq_false hb]
    simp
/-- The events of Pressed, as it goes. -/
def toldE (f : Bs) (now : Int) (n : Nat) : List Ev := (dueL f now n).map fun (k : Nat) => ⟨(k : Int), true, false, 0⟩
theorem toldE_succ (f : Bs) (now : Int) (n : Nat) : toldE f now (n + 1) = if (f n).due now then toldE f now n ++ [⟨(n : Int), true, false, 0⟩] else toldE f now n := by
  have h : dueL f now (n + 1) = if (f n).due now then dueL f now n ++ [n] else dueL f now n := rfl
  unfold toldE
  rw [h]
  by_cases hd : (f n).due now = true
  · rw [if_pos hd, if_pos hd]
    simp
  · rw [if_neg hd, if_neg hd]
/-- While Pressed goes: of those from n on nothing was told. -/
theorem told_far {l : List Ev} {f : Bs} {now : Int} {m : Int} : ∀ {n : Nat}, (¬ (0 ≤ m ∧ m < n)) → evs (l ++ toldE f now n) m = evs l m
  | 0, _ => by unfold toldE dueL; simp
  | n + 1, hm => by
    rw [toldE_succ]
    split
    · rw [← List.append_assoc, evs_snoc, evStep_not (by show (n : Int) ≠ m; omega)]
      exact told_far (by omega)
    · exact told_far (by omega)
theorem Tells.due {l : List Ev} {f : Bs} (h : Tells l f) {now : Int} {n : Nat} (hn : n ≤ 3) : (evs (l ++ toldE f now n) (n : Int)).due now = (f n).due now := by
  rw [told_far (by omega)]
  exact (h.in_ n hn).due now
end Go.Proofs.Ytdcnmbglbopgdaa
