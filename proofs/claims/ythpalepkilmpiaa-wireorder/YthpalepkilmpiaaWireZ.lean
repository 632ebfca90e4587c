/-
  What lamplightlaw06.WireOrder keeps: two rows of texts of its own; rows that go in, and come out; how many Takes are enough.
-/
import Derived.Test.YthpalepkilmpiaaWireX
import Derived.Test.YthpalepkilmpiaaWireY
namespace Go.Proofs.Ythpalepkilmpiaa
set_option linter.unusedVariables false
set_option linter.unusedSimpArgs false
open Go.RowKit

theorem takeM_cat (qs : List Rw) : (takeM qs).1 ++ (takeM qs).2.map (·.l) = qs.map (·.l) := by
  cases qs with
  | nil => rfl
  | cons r t =>
    by_cases h : r.h = 0
    · rw [takeM_free t h, ← List.map_append, List.take_append_drop]
    · rw [takeM_held t (by omega)]
      rfl
def pot (qs : List Rw) : Nat := (qs.map fun r => r.h + 1).sum
theorem pot_le (qs : List Rw) (h : ∀ r ∈ qs, r.h ≤ 16) : pot qs ≤ 17 * qs.length := by
  unfold pot
  induction qs with
  | nil => simp
  | cons r t ih =>
    have h1 := h r (by simp)
    have h2 := ih (fun s hs => h s (by simp [hs]))
    rw [List.map_cons, List.sum_cons, List.length_cons]
    omega
theorem pot_drop (qs : List Rw) (k : Nat) : pot (qs.drop k) + min k qs.length ≤ pot qs := by
  unfold pot
  induction qs generalizing k with
  | nil => simp
  | cons r t ih =>
    cases k with
    | zero => simp
    | succ k =>
      have := ih k
      rw [List.drop_succ_cons, List.map_cons, List.sum_cons, List.length_cons]
      omega
theorem pot_take (qs : List Rw) (h : qs ≠ []) : pot (takeM qs).2 + 1 ≤ pot qs := by
  cases qs with
  | nil => exact absurd rfl h
  | cons r t =>
    by_cases h0 : r.h = 0
    · rw [takeM_free t h0]
      have h1 := freeN_pos t h0
      have h2 := pot_drop (r :: t) (freeN (r :: t))
      rw [List.length_cons] at h2
      show pot ((r :: t).drop _) + 1 ≤ _
      omega
    · rw [takeM_held t (by omega)]
      unfold pot
      rw [List.map_cons, List.map_cons, List.sum_cons, List.sum_cons]
      show r.h - 1 + 1 + _ + 1 ≤ _
      omega
theorem takeM_nil : takeM [] = ([], []) := rfl
theorem Lw.room {w x : World} {D : Nat} {room : Int} {qs : List Rw} (h : Lw w D room qs x) : (qs.length : Int) ≤ room := by
  obtain ⟨rs, h1, rfl⟩ := h.wire
  rw [List.length_map]
  exact h1.room_.1
theorem Lw.most' {w x : World} {D : Nat} {room : Int} {qs : List Rw} (h : Lw w D room qs x) : ∀ r ∈ qs, r.h ≤ 16 := by
  obtain ⟨rs, h1, rfl⟩ := h.wire
  intro r hr
  obtain ⟨q, hq, rfl⟩ := List.mem_map.1 hr
  exact h1.most q hq
theorem putM_cat (room : Int) (qs : List Rw) (f : Fl) (l : List UInt8) (h : (putM room qs f l).2 = 0) : (putM room qs f l).1.map (·.l) = qs.map (·.l) ++ f.of l := by
  unfold putM at h ⊢
  split at h
  · simp at h
  · rename_i h1
    rw [if_neg h1]
    simp only
    rw [List.map_append, Fl.rows, List.map_map]
    congr 1
    conv => rhs; rw [← List.map_id (f.of l)]
    rfl
theorem putM_full (room : Int) (qs : List Rw) (f : Fl) (l : List UInt8) (h : (putM room qs f l).2 ≠ 0) : (putM room qs f l).1 = qs ∧ (putM room qs f l).2 = 5 := by
  unfold putM at h ⊢
  split at h
  · rename_i h1
    rw [if_pos h1]
    exact ⟨rfl, rfl⟩
  · simp at h

/-- Two rows of texts of one's own. -/
structure Two (w : World) (A1 : Option Addr) (n1 c1 : Nat) (l1 : List (List UInt8)) (A2 : Option Addr) (n2 c2 : Nat) (l2 : List (List UInt8)) (x : World) : Prop where
  o1 : x.ownsRow w.heap.size 9 1 (.slice A1 n1 c1) n1 (scs l1)
  o2 : x.ownsRow w.heap.size 9 1 (.slice A2 n2 c2) n2 (scs l2)
  len1 : l1.length = n1
  len2 : l2.length = n2
  sep : ∀ g, (Value.slice A1 n1 c1).ownBlock = some g → (Value.slice A2 n2 c2).ownBlock ≠ some g
theorem Two.swap {w x : World} {A1 A2 : Option Addr} {n1 c1 n2 c2 : Nat} {l1 l2 : List (List UInt8)} (h : Two w A1 n1 c1 l1 A2 n2 c2 l2 x) : Two w A2 n2 c2 l2 A1 n1 c1 l1 x := ⟨h.o2, h.o1, h.len2, h.len1, fun g h1 h2 => h.sep g h2 h1⟩
theorem Two.ft {w x y : World} {B : Nat} {T : List TypeId} {A1 A2 : Option Addr} {n1 c1 n2 c2 : Nat} {l1 l2 : List (List UInt8)} (h : Two w A1 n1 c1 l1 A2 n2 c2 l2 x) (hf : Ft B T x y) (hT : 9 ∉ T) : Two w A1 n1 c1 l1 A2 n2 c2 l2 y := ⟨own_ft h.o1 hf hT, own_ft h.o2 hf hT, h.len1, h.len2, h.sep⟩
theorem Two.step {w x y : World} {A1 A2 : Option Addr} {n1 c1 n2 c2 : Nat} {l1 l2 : List (List UInt8)} (h : Two w A1 n1 c1 l1 A2 n2 c2 l2 x) (hb : Below x.heap.size x y) : Two w A1 n1 c1 l1 A2 n2 c2 l2 y := h.ft (B := 0) (T := []) (Ft.of_below hb) (by simp)
theorem Two.nil (w x : World) : Two w none 0 0 [] none 0 0 [] x := ⟨World.ownsRow_nil _ _ _ _, World.ownsRow_nil _ _ _ _, rfl, rfl, fun g h => by simp [Value.ownBlock] at h⟩
/-- One text more behind the first row. -/
theorem Two.more {w x y : World} {A1 A2 A' : Option Addr} {n1 c1 n2 c2 c' : Nat} {l1 l2 : List (List UInt8)} {p : List UInt8} (h : Two w A1 n1 c1 l1 A2 n2 c2 l2 x) (hx : w.heap.size ≤ x.heap.size)
    (ho : y.ownsRow w.heap.size 9 1 (.slice A' (n1 + 1) c') (n1 + 1) (scs l1 ++ [.string ⟨p.toArray⟩])) (hg : x.grownBy y (Value.slice A1 n1 c1).ownBlock)
    (hat : (Value.slice A' (n1 + 1) c').ownBlock = (Value.slice A1 n1 c1).ownBlock ∨ (Value.slice A' (n1 + 1) c').ownBlock = some x.heap.size) :
    Two w A' (n1 + 1) c' (l1 ++ [p]) A2 n2 c2 l2 y ∧ Ft w.heap.size [9] x y := by
  have hc : Ch (Value.slice A1 n1 c1).ownBlock.toList x y := ⟨hg.os, hg.tape, hg.output, hg.size, fun j hj hm => hg.block j hj (fun he => hm (by rw [← he]; simp))⟩
  refine ⟨⟨by simpa [scs] using ho, ownB_ch h.o2 hc (fun g h2 h1 => h.sep g (by simpa using h1) h2), by simp [h.len1], h.len2, fun g h1 h2 => ?_⟩, Ft.of_ch hc (fun g h1 _ => ?_)⟩
  · rcases hat with h3 | h3
    · exact h.sep g (by rw [← h3]; exact h1) h2
    · rw [h3] at h1
      injection h1 with h1
      have := (h.o2.lt g h2).2
      omega
  · have h2 : (Value.slice A1 n1 c1).ownBlock = some g := by simpa using h1
    refine ⟨(h.o1.lt g h2).1, ?_⟩
    rcases h.o1.2 with ⟨hv, _⟩ | ⟨g', cap, cur, hv, _, hh, _⟩
    · rw [hv] at h2; simp [Value.ownBlock] at h2
    · rw [hv] at h2
      simp [Value.ownBlock] at h2
      subst h2
      exact ⟨_, _, _, hh, by simp⟩

theorem wp_append_at {P : Program} {w : World} {o : Oper} {a : Act} {K : Act → World → Prop} {Q : Exit → Act → World → Prop} (s x : Operand) (t : TypeId)
    (ho : o.op = .call { callee := .builtin .append, args := #[s, x], argTypes := #[t, t] })
    (base : Nat) (e : TypeId) (i : TypeInfo) (z : Value) (size bytes : Nat) (ht : P.underlying t = some (.slice e)) (hi : P.info? e = some i) (hz : i.zero = some z) (hsize : i.size = size) (hby : i.bytes = bytes) (hzs : z.cells.size = size) (hsz : 0 < size)
    (v : Value) (n : Nat) (xs : List Value) (hs : a.eval s = v) (hown : w.ownsRow base e size v n xs)
    (ad : Addr) (m c : Nat) (news : List Value) (hx : a.eval x = .slice (some ad) m c) (hm : news.length = m * size) (hc : ∀ j u, news[j]? = some u → w.cell? (ad.add j) = some u) (h1 : ∀ u ∈ news, u.oneCell' = true)
    (h63 : n + m ≤ maxLen) (hbytes : (n + m) * bytes ≤ 140737488355328) (hbase : base ≤ w.heap.size)
    (h : ∀ A' c' w', w'.ownsRow base e size (.slice A' (n + m) c') (n + m) (xs ++ news) → w.grownBy w' v.ownBlock → ((Value.slice A' (n + m) c').ownBlock = v.ownBlock ∨ (Value.slice A' (n + m) c').ownBlock = some w.heap.size) → K (a.put o.dst (.slice A' (n + m) c')) w') : o.wp P a w K Q := by
  obtain ⟨v', w', r1, r2, r3, _, r5⟩ := run_append_own_at (P := P) w base t o.type e i z size bytes ht hi hz hsize hby hzs hsz v n xs hown ad m c news hm hc h1 h63 hbytes hbase
  obtain ⟨A', c', rfl⟩ := ownB_form r2
  unfold Oper.wp
  simp [execOp, ho, resolve, invoke, builtin, hs, hx, r1, Result.andThen]
  exact h A' c' w' r2 r3 r5
theorem wpList_append_at {P : Program} {w : World} {ops : Array Oper} {rest : List Oper} {o : Oper} {a : Act} {Q : Exit → Act → World → Prop} (hgd : o.guard = none) (s x : Operand) (t : TypeId)
    (ho : o.op = .call { callee := .builtin .append, args := #[s, x], argTypes := #[t, t] })
    (base : Nat) (e : TypeId) (i : TypeInfo) (z : Value) (size bytes : Nat) (ht : P.underlying t = some (.slice e)) (hi : P.info? e = some i) (hz : i.zero = some z) (hsize : i.size = size) (hby : i.bytes = bytes) (hzs : z.cells.size = size) (hsz : 0 < size)
    (v : Value) (n : Nat) (xs : List Value) (hs : a.eval s = v) (hown : w.ownsRow base e size v n xs)
    (ad : Addr) (m c : Nat) (news : List Value) (hx : a.eval x = .slice (some ad) m c) (hm : news.length = m * size) (hc : ∀ j u, news[j]? = some u → w.cell? (ad.add j) = some u) (h1 : ∀ u ∈ news, u.oneCell' = true)
    (h63 : n + m ≤ maxLen) (hbytes : (n + m) * bytes ≤ 140737488355328) (hbase : base ≤ w.heap.size)
    (h : ∀ A' c' w', w'.ownsRow base e size (.slice A' (n + m) c') (n + m) (xs ++ news) → w.grownBy w' v.ownBlock → ((Value.slice A' (n + m) c').ownBlock = v.ownBlock ∨ (Value.slice A' (n + m) c').ownBlock = some w.heap.size) → wpList P ops Q rest (a.put o.dst (.slice A' (n + m) c')) w') : wpList P ops Q (o :: rest) a w :=
  wpList_plain hgd fun _ hK => wp_append_at s x t ho base e i z size bytes ht hi hz hsize hby hzs hsz v n xs hs hown ad m c news hx hm hc h1 h63 hbytes hbase fun A' c' w' h1 h2 h3 => hK _ _ (h A' c' w' h1 h2 h3)
/-- A text, laid as a row. -/
theorem text_laid (x : World) (p : List UInt8) : ∀ j u, [Value.string ⟨p.toArray⟩][j]? = some u → (x.alloc (.cells #[.string ⟨p.toArray⟩] 9)).cell? ((⟨x.heap.size, 0, none⟩ : Addr).add j) = some u := by
  intro j u hu
  rw [addr_add, Nat.zero_add, cell_alloc_new _ _ _ _ _ rfl]
  simpa using hu

/-- All of it. -/
structure Ow (w : World) (D : Nat) (room : Int) (qs : List Rw) (A1 : Option Addr) (n1 c1 : Nat) (l1 : List (List UInt8)) (A2 : Option Addr) (n2 c2 : Nat) (l2 : List (List UInt8)) (x : World) : Prop where
  lw : Lw w D room qs x
  two : Two w A1 n1 c1 l1 A2 n2 c2 l2 x
theorem Ow.step {w x y : World} {D : Nat} {room : Int} {qs : List Rw} {A1 A2 : Option Addr} {n1 c1 n2 c2 : Nat} {l1 l2 : List (List UInt8)} (h : Ow w D room qs A1 n1 c1 l1 A2 n2 c2 l2 x) (hb : Below x.heap.size x y) : Ow w D room qs A1 n1 c1 l1 A2 n2 c2 l2 y := ⟨h.lw.step hb, h.two.step hb⟩
theorem Ow.turn {w x y : World} {D : Nat} {room : Int} {qs qs' : List Rw} {A1 A2 : Option Addr} {n1 c1 n2 c2 : Nat} {l1 l2 : List (List UInt8)} (h : Ow w D room qs A1 n1 c1 l1 A2 n2 c2 l2 x) (hl : Lw w D room qs' y) (hf : Ft D [57, 61] x y) : Ow w D room qs' A1 n1 c1 l1 A2 n2 c2 l2 y := ⟨hl, h.two.ft hf (by decide)⟩
theorem Ow.size {w x : World} {D : Nat} {room : Int} {qs : List Rw} {A1 A2 : Option Addr} {n1 c1 n2 c2 : Nat} {l1 l2 : List (List UInt8)} (h : Ow w D room qs A1 n1 c1 l1 A2 n2 c2 l2 x) : w.heap.size ≤ x.heap.size := h.lw.below.size
/-- One text more: behind what came out, or behind what is wanted. -/
theorem Ow.more1 {w x y : World} {D : Nat} {room : Int} {qs : List Rw} {A1 A2 A' : Option Addr} {n1 c1 n2 c2 c' : Nat} {l1 l2 : List (List UInt8)} {p : List UInt8} (h : Ow w D room qs A1 n1 c1 l1 A2 n2 c2 l2 x)
    (ho : y.ownsRow w.heap.size 9 1 (.slice A' (n1 + 1) c') (n1 + 1) (scs l1 ++ [.string ⟨p.toArray⟩])) (hg : (x.alloc (.cells #[.string ⟨p.toArray⟩] 9)).grownBy y (Value.slice A1 n1 c1).ownBlock)
    (hat : (Value.slice A' (n1 + 1) c').ownBlock = (Value.slice A1 n1 c1).ownBlock ∨ (Value.slice A' (n1 + 1) c').ownBlock = some (x.alloc (.cells #[.string ⟨p.toArray⟩] 9)).heap.size) :
    Ow w D room qs A' (n1 + 1) c' (l1 ++ [p]) A2 n2 c2 l2 y ∧ Ft w.heap.size [9] x y := by
  have h1 := h.step (new_below x (.cells #[.string ⟨p.toArray⟩] 9))
  obtain ⟨h2, h3⟩ := h1.two.more h1.size ho hg hat
  exact ⟨⟨h1.lw.ft h3 (Nat.le_refl _) (by decide) (by decide) (by decide), h2⟩, (Ft.of_below (new_below x _)).trans h3⟩
theorem Ow.more2 {w x y : World} {D : Nat} {room : Int} {qs : List Rw} {A1 A2 A' : Option Addr} {n1 c1 n2 c2 c' : Nat} {l1 l2 : List (List UInt8)} {p : List UInt8} (h : Ow w D room qs A1 n1 c1 l1 A2 n2 c2 l2 x)
    (ho : y.ownsRow w.heap.size 9 1 (.slice A' (n2 + 1) c') (n2 + 1) (scs l2 ++ [.string ⟨p.toArray⟩])) (hg : (x.alloc (.cells #[.string ⟨p.toArray⟩] 9)).grownBy y (Value.slice A2 n2 c2).ownBlock)
    (hat : (Value.slice A' (n2 + 1) c').ownBlock = (Value.slice A2 n2 c2).ownBlock ∨ (Value.slice A' (n2 + 1) c').ownBlock = some (x.alloc (.cells #[.string ⟨p.toArray⟩] 9)).heap.size) :
    Ow w D room qs A1 n1 c1 l1 A' (n2 + 1) c' (l2 ++ [p]) y ∧ Ft w.heap.size [9] x y := by
  have h1 := h.step (new_below x (.cells #[.string ⟨p.toArray⟩] 9))
  obtain ⟨h2, h3⟩ := h1.two.swap.more h1.size ho hg hat
  exact ⟨⟨h1.lw.ft h3 (Nat.le_refl _) (by decide) (by decide) (by decide), h2.swap⟩, (Ft.of_below (new_below x _)).trans h3⟩
theorem take_next {ys : List (List UInt8)} {j : Nat} {p : List UInt8} (h : ys[j]? = some p) : ys.take (j + 1) = ys.take j ++ [p] := by rw [List.take_add_one, h]; rfl

end Go.Proofs.Ythpalepkilmpiaa
