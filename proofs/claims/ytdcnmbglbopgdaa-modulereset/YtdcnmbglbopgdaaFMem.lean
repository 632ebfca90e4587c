/-
  Words for memory that the later layers share: rows of bytes, strings of them, rows of a call's own and appends onto them, slices of bytes in rows of their own; numbers as a walk spells them. Of the program its types alone.
-/
import Derived.Test.YtdcnmbglbopgdaaFBase
import Derived.Test.YtdcnmbglbopgdaaProg
import Derived.Laws.BitsAllLaws
import Derived.Laws.AppendOwnNone
import Derived.Lib.SlBytesConst
import Derived.Deep.CutBlock
namespace Go.Proofs.Ytdcnmbglbopgdaa
set_option linter.unusedVariables false
set_option linter.unusedSimpArgs false
open Go.RowKit

/-- A row of bytes, known whole. -/
def Row (w : World) (g : Nat) (l : List UInt8) : Prop := w.heap[g]? = some (.cells (bcs l).toArray 5 (0, 0))
theorem Row.lt {w : World} {g : Nat} {l : List UInt8} (h : Row w g l) : g < w.heap.size := (Array.getElem?_eq_some_iff.1 h).1
theorem Row.holds {w : World} {g : Nat} {l : List UInt8} (h : Row w g l) : Holds w g (some ⟨g, 0, none⟩) (bcs l) := Holds.of_row h
theorem Row.keep {F : List Nat} {w w' : World} {g : Nat} {l : List UInt8} (h : Row w g l) (hc : Ch F w w') (hg : g ∉ F) : Row w' g l := (hc.block g h.lt hg).trans h
theorem Row.cell {w : World} {g : Nat} {l : List UInt8} (h : Row w g l) (k : Nat) (hk : k < l.length) : w.cell? ⟨g, k, none⟩ = some (.int .u8 (l[k].toNat : Int)) := by
  unfold Row at h
  simp [World.cell?, h, bcs, hk]

theorem info_byte : (Try.prog.info? 5).map (fun i => (i.zero, i.size, i.bytes)) = some (some (.int .u8 0), 1, 1) := by kernel_rfl
theorem size_byte : (Try.prog.info? 5).map (·.size) = some 1 := by kernel_rfl

theorem cell_alloc_new (w : World) (cs : Array Value) (t : TypeId) (n i : Nat) (hn : n = w.heap.size) : (w.alloc (.cells cs t)).cell? ⟨n, i, none⟩ = cs[i]? := by
  subst hn
  simp only [World.cell?, heap_alloc_new w _]
  simp

def fill (L : Nat) (l : List UInt8) : List Value := bcs l ++ List.replicate (L - l.length) (.int .u8 0)
theorem fill_length (L : Nat) (l : List UInt8) (h : l.length ≤ L) : (fill L l).length = L := by simp [fill, bcs_length]; omega
theorem fill_splice (L : Nat) (a b : List UInt8) (_h : a.length + b.length ≤ L) : splice (fill L a) a.length (bcs b) = fill L (a ++ b) := by
  unfold splice fill
  rw [List.take_left' (bcs_length a), List.drop_append, bcs_append, List.append_assoc]
  congr 1
  congr 1
  rw [List.drop_eq_nil_of_le (by rw [bcs_length]; omega)]
  simp [bcs_length]
  omega
theorem fill_none (L : Nat) : fill L [] = List.replicate L (.int .u8 0) := by simp [fill, bcs]
theorem row_of_own {w : World} {base g n : Nat} {e : TypeId} {xs : List Value} (h : w.ownsRow base e 1 (.slice (some ⟨g, 0, none⟩) n n) n xs) : w.heap[g]? = some (.cells xs.toArray e (0, 0)) := by
  rcases h.2 with ⟨hv, _⟩ | ⟨g', cap, cur, hv, _, hh, _, _, hs, ht⟩
  · cases hv
  · injection hv with h1 h2 h3
    injection h1 with h1
    injection h1 with h1
    subst h1 h3
    rw [hh]
    rw [List.take_of_length_le (by simp [hs])] at ht
    simp [← ht]
theorem addr_add (g o j : Nat) : (Addr.mk g o none).add j = ⟨g, o + j, none⟩ := by
  by_cases h : j = 0 <;> simp [Addr.add, h]

theorem bcs_get (l : List UInt8) (j : Nat) (h : j < l.length) : (bcs l)[j]? = some (.int .u8 (l[j].toNat : Int)) := by
  rw [bcs, List.getElem?_map, List.getElem?_eq_getElem h]; rfl
theorem bcs_take (l : List UInt8) (k : Nat) : bcs (l.take k) = (bcs l).take k := by simp [bcs]
set_option maxRecDepth 20000 in
theorem convert_holds {w : World} {g n c : Nat} {A : Option Addr} {l : List UInt8} (h : Holds w g A (bcs l)) (hn : l.length = n) :
    (convert 34 9 (.slice A n c)).run Try.prog w = .ok (.string ⟨l.toArray⟩) w := by
  subst hn
  cases l with
  | nil =>
    cases A with
    | none => exact run_convert_bytes_nil (P := Try.prog) w 34 5 Try.underlying34 Try.underlying5 0 c 9 Try.underlying9
    | some ad =>
      have hl : (loadCells ad 0).run Try.prog w = .ok (([] : List Int).map (Value.int .u8)).toArray w := run_loadCells_list (P := Try.prog) w ad [] (by simp)
      rw [List.length_nil, run_convert_bytes_string w 34 9 5 _ 0 c Try.underlying34 Try.underlying5 Try.underlying9, run_bytesToString w ad 0 c [] hl]
      rfl
  | cons b l =>
    obtain ⟨_, o, rfl, hc⟩ := h (by simp [bcs])
    have hr := run_convert_bytes_arg (P := Try.prog) w 34 5 Try.underlying34 Try.underlying5 g o (b :: l).length c ((b :: l).map fun b => (b.toNat : Int)) (by simp) (fun i hi => by
      have hi' : i < ((b :: l).map fun b => (b.toNat : Int)).length := by rw [List.length_map]; exact hi
      rw [hc i (.int .u8 (((b :: l)[i]).toNat : Int)) (by rw [bcs, List.getElem?_map, List.getElem?_eq_getElem hi]; rfl)]
      rw [List.getD_eq_getElem?_getD, List.getElem?_eq_getElem hi', List.getElem_map]
      rfl) 9 Try.underlying9
    rw [hr]
    congr 2
    simp only [strOfNums, List.map_map]
    congr 2
    conv => rhs; rw [← List.map_id (b :: l)]
    apply List.map_congr_left
    intro b _
    simp

/-- An append of nothing from a nil slice, whatever capacity it says. -/
theorem run_append_nothing {P : Program} {w : World} (base : Nat) (t ty e : TypeId) (i : TypeInfo) (size : Nat) (ht : P.underlying t = some (.slice e)) (hi : P.info? e = some i)
    (v : Value) (n : Nat) (xs : List Value) (hown : w.ownsRow base e size v n xs) (c : Nat) : (Builtin.append_ #[t, t] ty #[v, .slice none 0 c]).run P w = .ok v w := by
  rcases hown.2 with ⟨rfl, rfl⟩ | ⟨g, cap, cur, rfl, _, _, hnc, _⟩ <;> simp [Builtin.append_, run_underlying ht, sizeOf, typeInfo, hi, Builtin.lenOf, Builtin.firstCells, storeCells]
  intro hh
  omega

theorem own_form {w : World} {base n size : Nat} {e : TypeId} {v : Value} {xs : List Value} (h : w.ownsRow base e size v n xs) : ∃ A c, v = .slice A n c := by
  rcases h.2 with ⟨rfl, rfl⟩ | ⟨g, cap, cur, rfl, _⟩
  · exact ⟨none, 0, rfl⟩
  · exact ⟨_, cap, rfl⟩

/-- An append onto a row of one's own, of what a slice holds, nil or not: the new value is a slice of so many. -/
theorem wp_append_holds {P : Program} {w : World} {o : Oper} {a : Act} {K : Act → World → Prop} {Q : Exit → Act → World → Prop} (s x : Operand) (t : TypeId)
    (ho : o.op = .call { callee := .builtin .append, args := #[s, x], argTypes := #[t, t] })
    (e : TypeId) (i : TypeInfo) (z : Value) (bytes : Nat) (ht : P.underlying t = some (.slice e)) (hi : P.info? e = some i) (hz : i.zero = some z) (hsize : i.size = 1) (hby : i.bytes = bytes) (hzs : z.cells.size = 1)
    (v : Value) (n : Nat) (xs : List Value) (hs : a.eval s = v) (hown : w.ownsRow 0 e 1 v n xs)
    (sb : Nat) (A : Option Addr) (m c : Nat) (news : List Value) (hx : a.eval x = .slice A m c) (hm : news.length = m) (hh : Holds w sb A news) (h1 : ∀ u ∈ news, u.oneCell' = true)
    (h63 : n + m ≤ maxLen) (hbytes : (n + m) * bytes ≤ 140737488355328)
    (h : ∀ A' c' w', w'.ownsRow 0 e 1 (.slice A' (n + m) c') (n + m) (xs ++ news) → w.grownBy w' v.ownBlock → ((Value.slice A' (n + m) c').ownBlock = v.ownBlock ∨ (Value.slice A' (n + m) c').ownBlock = some w.heap.size) →
      K (a.put o.dst (.slice A' (n + m) c')) w') : o.wp P a w K Q := by
  have hrun : ∃ v' w', (Builtin.append_ #[t, t] o.type #[v, .slice A m c]).run P w = .ok v' w' ∧ w'.ownsRow 0 e 1 v' (n + m) (xs ++ news) ∧ w.grownBy w' v.ownBlock ∧ (v'.ownBlock = v.ownBlock ∨ v'.ownBlock = some w.heap.size) := by
    cases A with
    | none =>
      have h0 : news = [] := by
        cases news with
        | nil => rfl
        | cons u us =>
          obtain ⟨_, o', ho', _⟩ := hh (by simp)
          cases ho'
      subst h0
      simp at hm
      subst hm
      exact ⟨v, w, run_append_nothing 0 t o.type e i 1 ht hi v n xs hown c, by simpa using hown, World.grownBy.refl w _, .inl rfl⟩
    | some ad =>
      have hc : ∀ j u, news[j]? = some u → w.cell? (ad.add j) = some u := by
        intro j u hu
        have hp : 0 < news.length := by
          cases news with
          | nil => simp at hu
          | cons _ _ => simp
        obtain ⟨_, o', ho', hcell⟩ := hh hp
        injection ho' with ho'
        subst ho'
        rw [addr_add]
        exact hcell j u hu
      obtain ⟨v', w', r1, r2, r3, _, r5⟩ := run_append_own_at (P := P) w 0 t o.type e i z 1 bytes ht hi hz hsize hby hzs (by omega) v n xs hown ad m c news (by omega) hc h1 h63 hbytes (Nat.zero_le _)
      exact ⟨v', w', r1, r2, r3, r5⟩
  obtain ⟨v', w', hr, h2, h3, h4⟩ := hrun
  obtain ⟨A', c', rfl⟩ := own_form h2
  unfold Oper.wp
  simp [execOp, ho, resolve, invoke, builtin, hs, hx, hr, Result.andThen]
  exact h A' c' w' h2 h3 h4

theorem wpList_append_holds {P : Program} {w : World} {ops : Array Oper} {rest : List Oper} {o : Oper} {a : Act} {Q : Exit → Act → World → Prop} (hgd : o.guard = none) (s x : Operand) (t : TypeId)
    (ho : o.op = .call { callee := .builtin .append, args := #[s, x], argTypes := #[t, t] })
    (e : TypeId) (i : TypeInfo) (z : Value) (bytes : Nat) (ht : P.underlying t = some (.slice e)) (hi : P.info? e = some i) (hz : i.zero = some z) (hsize : i.size = 1) (hby : i.bytes = bytes) (hzs : z.cells.size = 1)
    (v : Value) (n : Nat) (xs : List Value) (hs : a.eval s = v) (hown : w.ownsRow 0 e 1 v n xs)
    (sb : Nat) (A : Option Addr) (m c : Nat) (news : List Value) (hx : a.eval x = .slice A m c) (hm : news.length = m) (hh : Holds w sb A news) (h1 : ∀ u ∈ news, u.oneCell' = true)
    (h63 : n + m ≤ maxLen) (hbytes : (n + m) * bytes ≤ 140737488355328)
    (h : ∀ A' c' w', w'.ownsRow 0 e 1 (.slice A' (n + m) c') (n + m) (xs ++ news) → w.grownBy w' v.ownBlock → ((Value.slice A' (n + m) c').ownBlock = v.ownBlock ∨ (Value.slice A' (n + m) c').ownBlock = some w.heap.size) →
      wpList P ops Q rest (a.put o.dst (.slice A' (n + m) c')) w') : wpList P ops Q (o :: rest) a w :=
  wpList_plain hgd fun _ hK => wp_append_holds s x t ho e i z bytes ht hi hz hsize hby hzs v n xs hs hown sb A m c news hx hm hh h1 h63 hbytes fun A' c' w' h1 h2 h3 => hK _ _ (h A' c' w' h1 h2 h3)

theorem own_ne {w : World} {W g n : Nat} {v : Value} {xs : List Value} {cs : Array Value} {t e : TypeId} (h1 : w.heap[W]? = some (.cells cs t (0, 0))) (h2 : w.ownsRow 0 e 1 v n xs) (h3 : v.ownBlock = some g) (ht : e ≠ t) : g ≠ W := by
  rintro rfl
  rcases h2.2 with ⟨rfl, _⟩ | ⟨g', cap, cur, rfl, _, hh, _⟩
  · simp [Value.ownBlock] at h3
  · simp [Value.ownBlock] at h3
    subst h3
    rw [h1] at hh
    injection hh with hh
    injection hh with _ hh
    exact ht hh.symm

theorem own_holds {w : World} {n g c : Nat} {A : Option Addr} {e : TypeId} {xs : List Value} (h : w.ownsRow 0 e 1 (.slice A n c) n xs) (hg : ∀ h, (Value.slice A n c).ownBlock = some h → h = g) : Holds w g A xs := by
  intro hp
  rcases h.2 with ⟨_, rfl⟩ | ⟨g', cap, cur, hv, _, hh, h1, h2, h3, h4⟩
  · have := h.1; omega
  · injection hv with hA hn hc
    subst hA
    have hgg := hg g' rfl
    subst hgg
    refine ⟨(Array.getElem?_eq_some_iff.1 hh).1, 0, rfl, fun j u hu => ?_⟩
    rw [← h4, List.getElem?_take] at hu
    split at hu
    · simp [World.cell?, hh]
      simpa using hu
    · cases hu

theorem own_ch {F : List Nat} {w w' : World} {v : Value} {n : Nat} {xs : List Value} {e : TypeId} (h : w.ownsRow 0 e 1 v n xs) (hc : Ch F w w') (hF : ∀ g, v.ownBlock = some g → g ∉ F) : w'.ownsRow 0 e 1 v n xs := by
  refine ⟨h.1, ?_⟩
  rcases h.2 with hn | ⟨g, cap, cur, rfl, hb, hh, r⟩
  · exact .inl hn
  · exact .inr ⟨g, cap, cur, rfl, hb, (hc.block g (Array.getElem?_eq_some_iff.1 hh).1 (hF g rfl)).trans hh, r⟩
theorem convert_own {w : World} {n c : Nat} {A : Option Addr} {l : List UInt8} (h : w.ownsRow 0 5 1 (.slice A n c) n (bcs l)) (hn : l.length = n) :
    (convert 34 9 (.slice A n c)).run Try.prog w = .ok (.string ⟨l.toArray⟩) w := by
  cases A with
  | none =>
    have hl0 : n = 0 := by
      rcases h.2 with ⟨_, h0⟩ | ⟨g', _, _, hx, _⟩
      · exact h0
      · cases hx
    have hl : l = [] := List.eq_nil_of_length_eq_zero (by omega)
    subst hl
    exact convert_holds (Holds.nil w 0 none) hn
  | some ad => exact convert_holds (own_holds (g := ad.block) h (by intro h hh; simp [Value.ownBlock] at hh; exact hh.symm)) hn

theorem own_cap {w : World} {n c : Nat} {A : Option Addr} {e : TypeId} {xs : List Value} (h : w.ownsRow 0 e 1 (.slice A n c) n xs) : n ≤ c := by
  rcases h.2 with ⟨h1, h0⟩ | ⟨g', cap, _, hx, _, _, hnc, _⟩
  · omega
  · injection hx with _ _ hc
    omega
/-- A slice of bytes of one's own, at B or behind. -/
structure Own1 (w : World) (B : Nat) (A : Option Addr) (n c : Nat) (l : List UInt8) : Prop where
  own : w.ownsRow 0 5 1 (.slice A n c) n (bcs l)
  from_ : ∀ h, (Value.slice A n c).ownBlock = some h → B ≤ h
  len : l.length = n
theorem Own1.holds {w : World} {B : Nat} {A : Option Addr} {n c : Nat} {l : List UInt8} (h : Own1 w B A n c l) : ∃ g, Holds w g A (bcs l) ∧ (0 < n → B ≤ g) := by
  cases A with
  | none =>
    have hl0 : n = 0 := by
      rcases h.own.2 with ⟨_, h0⟩ | ⟨g', _, _, hx, _⟩
      · exact h0
      · cases hx
    have hl : l = [] := List.eq_nil_of_length_eq_zero (by rw [h.len]; exact hl0)
    subst hl
    exact ⟨0, Holds.nil _ _ _, fun hp => by omega⟩
  | some ad => exact ⟨ad.block, own_holds h.own (by intro h hh; simp [Value.ownBlock] at hh; exact hh.symm), fun _ => h.from_ _ rfl⟩
theorem Own1.cap {w : World} {B : Nat} {A : Option Addr} {n c : Nat} {l : List UInt8} (h : Own1 w B A n c l) : n ≤ c := own_cap h.own

/-- The lesser of a length and a bound, as the walk writes it. -/
theorem min_of (n b : Nat) (c : Int) (hc : (b : Int) = c) : ∃ m : Nat, m ≤ b ∧ m ≤ n ∧ (if c < (n : Int) then c else (n : Int)) = (m : Int) := by
  subst hc
  by_cases h : (b : Int) < (n : Int)
  · exact ⟨b, Nat.le_refl _, by omega, by rw [if_pos h]⟩
  · exact ⟨n, by omega, Nat.le_refl _, by rw [if_neg h]⟩

theorem Row.drop {w : World} {X : Nat} {l : List UInt8} (h : Row w X l) (k : Nat) (hk : k ≤ l.length) : Holds w X (some ⟨X, k, none⟩) (bcs (l.drop k)) := by
  have := h.holds.drop k (l.length + 1) (by rw [bcs_length]; exact hk) (by rw [bcs_length]; omega)
  rw [if_neg (by omega), show (bcs l).drop k = bcs (l.drop k) by simp [bcs]] at this
  rw [show (some (Addr.mk X k none)) = Option.map (·.add k) (some (Addr.mk X 0 none)) by rw [Option.map_some, addr_add, Nat.zero_add]]
  exact this

/-- What stays known from world to world: that a slice holds its bytes; that nothing that was there has turned. -/
structure Kp (B : Nat) (w : World) (g : Nat) (A : Option Addr) (l : List UInt8) (x : World) : Prop where
  holds : Holds x g A (bcs l)
  below : Below B w x
  le : B ≤ x.heap.size
theorem Kp.step {B : Nat} {w x y : World} {g : Nat} {A : Option Addr} {l : List UInt8} (h : Kp B w g A l x) (hb : Below x.heap.size x y) : Kp B w g A l y :=
  ⟨h.holds.keep (Ch.of_below hb) (by simp), h.below.trans (hb.mono h.le), Nat.le_trans h.le hb.size⟩
theorem Kp.alloc {B : Nat} {w x : World} {g : Nat} {A : Option Addr} {l : List UInt8} (h : Kp B w g A l x) (o : Obj) : Kp B w g A l (x.alloc o) := h.step (((Ch.refl [] x).alloc o).below (by simp))
theorem Kp.drew {B : Nat} {w x : World} {g : Nat} {A : Option Addr} {l : List UInt8} (h : Kp B w g A l x) : Kp B w g A l x.drew := h.step (((Ch.refl [] x).drew).below (by simp))
theorem Own1.step {w w' : World} {B : Nat} {A : Option Addr} {n c : Nat} {l : List UInt8} (h : Own1 w B A n c l) (hb : Below w.heap.size w w') : Own1 w' B A n c l :=
  ⟨own_ch h.own (Ch.of_below hb) (fun _ _ => by simp), h.from_, h.len⟩
theorem Own1.alloc {w : World} {B : Nat} {A : Option Addr} {n c : Nat} {l : List UInt8} (h : Own1 w B A n c l) (o : Obj) : Own1 (w.alloc o) B A n c l := ⟨h.own.alloc o, h.from_, h.len⟩
/-- Behind an append. -/
theorem Own1.grown {w w' : World} {B : Nat} {A A' : Option Addr} {n c n' c' : Nat} {l l' : List UInt8} (h : Own1 w B A n c l) (hB : B ≤ w.heap.size) (hg : w.grownBy w' (Value.slice A n c).ownBlock) (ho : w'.ownsRow 0 5 1 (.slice A' n' c') n' (bcs l')) (hn : l'.length = n')
    (hat : (Value.slice A' n' c').ownBlock = (Value.slice A n c).ownBlock ∨ (Value.slice A' n' c').ownBlock = some w.heap.size) : Own1 w' B A' n' c' l' ∧ Below B w w' := by
  refine ⟨⟨ho, fun g hgg => ?_, hn⟩, (Below.refl B w).grown hg hB (fun g hg => h.from_ g hg)⟩
  rcases hat with h1 | h1
  · exact h.from_ g (by rw [← h1]; exact hgg)
  · rw [h1] at hgg
    injection hgg with hgg
    omega
/-- One cell of it: read, and written. -/
theorem Own1.at {w : World} {B : Nat} {A : Option Addr} {n c : Nat} {l : List UInt8} (h : Own1 w B A n c l) (j : Nat) (hj : j < l.length) : ∃ g, A = some ⟨g, 0, none⟩ ∧ B ≤ g ∧ g < w.heap.size ∧ w.cell? ⟨g, j, none⟩ = some (.int .u8 (l[j].toNat : Int)) ∧ w.frozen? ⟨g, j, none⟩ = false ∧
    ∀ b : UInt8, Own1 (w.setCell ⟨g, j, none⟩ (.int .u8 (b.toNat : Int))) B A n c (l.set j b) := by
  have hn := h.len
  rcases h.own.2 with ⟨_, h0⟩ | ⟨g, cap, cur, hv, _⟩
  · omega
  · injection hv with hA _ hc
    subst hA
    refine ⟨g, rfl, h.from_ g rfl, (h.own.lt g rfl).2, ?_, h.own.frozenAt j, fun b => ⟨?_, h.from_, by rw [List.length_set]; exact h.len⟩⟩
    · rw [h.own.cellAt j (by omega), bcs_get l j hj]
    · have := (h.own.stored j (.int .u8 (b.toNat : Int))).1
      rw [show (bcs l).set j (.int .u8 (b.toNat : Int)) = bcs (l.set j b) by simp [bcs, List.map_set]] at this
      exact this

end Go.Proofs.Ytdcnmbglbopgdaa
