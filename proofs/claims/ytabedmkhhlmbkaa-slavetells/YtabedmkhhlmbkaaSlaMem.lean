/-
  Rows of frames, as two wires have them: a slice of one's own that begins anywhere in its row; one more behind, the first left out, the first once more. By the numbers of their blocks, for two of them are of one type.
-/
import Derived.Test.YtabedmkhhlmbkaaSlaMath
import Derived.Test.YtabedmkhhlmbkaaMasG
namespace Go.Proofs.Ytabedmkhhlmbkaa
set_option linter.unusedVariables false
set_option linter.unusedSimpArgs false
open Go.RowKit

/-- The block that a slice lies in. -/
def ablk (A : Option Addr) : List Nat := match A with
  | none => []
  | some ad => [ad.block]
theorem run_append_qn {P : Program} {w : World} (B : Nat) (t ty e : TypeId) (i : TypeInfo) (z : Value) (size bytes : Nat) (ht : P.underlying t = some (.slice e)) (hi : P.info? e = some i) (hz : i.zero = some z)
    (hsize : i.size = size) (hby : i.bytes = bytes) (hzs : z.cells.size = size) (hsz : 0 < size) {A : Option Addr} {n c : Nat} {xs : List Value} (h : Que w B e size A n c xs)
    (ad : Addr) (m c2 : Nat) (news : List Value) (hl : news.length = m * size) (hnews : ∀ j u, news[j]? = some u → w.cell? (ad.add j) = some u) (h1 : ∀ u ∈ news, u.oneCell' = true)
    (h63 : n + m ≤ maxLen) (hbytes : (n + m) * bytes ≤ 140737488355328) (hB : B ≤ w.heap.size) :
    ∃ A' c' w', (Builtin.append_ #[t, t] ty #[.slice A n c, .slice (some ad) m c2]).run P w = .ok (.slice A' (n + m) c') w' ∧ Que w' B e size A' (n + m) c' (xs ++ news) ∧ Ch (ablk A) w w' ∧ ∀ b ∈ ablk A', b ∈ ablk A ∨ w.heap.size ≤ b := by
  have hlen : (xs ++ news).length = (n + m) * size := by rw [List.length_append, h.1, hl, Nat.add_mul]
  rcases h.2 with ⟨rfl, rfl, rfl⟩ | ⟨g, o, cur, rfl, h2, h3, h4, h5, h6, h7⟩
  · have hx : xs = [] := List.eq_nil_of_length_eq_zero (by rw [h.1]; simp)
    subst hx
    obtain ⟨v', w', r1, r2, r3, _⟩ := run_append_own (P := P) w w.heap.size t ty e i z size bytes ht hi hz hsize hby hzs hsz (.slice none 0 0) 0 [] (World.ownsRow_nil w w.heap.size e size) ad m c2 news hl hnews h1 h63 hbytes (Nat.le_refl _)
    obtain ⟨A', c', rfl⟩ := ownB_form r2
    refine ⟨A', c', w', r1, Que.of_own (own_mono r2 hB), ⟨r3.os, r3.tape, r3.output, r3.size, fun k hk _ => r3.block k hk (by simp [Value.ownBlock])⟩, fun b hb => .inr ?_⟩
    cases A' with
    | none => simp [ablk] at hb
    | some a => simp [ablk] at hb; subst hb; exact (r2.lt _ rfl).1
  · by_cases hr : n + m ≤ c
    · subst hsize
      have hle : (n + m) * i.size ≤ c * i.size := Nat.mul_le_mul_right _ hr
      have hnm : (n + m) * i.size = n * i.size + m * i.size := Nat.add_mul _ _ _
      have hrun := run_append_room_cells (P := P) w t ty e i ht hi g o n c ad m c2 news hl hnews h1 hr (fun j hj => by
        have : o + n * i.size + j < cur.size := by omega
        simp [World.cell?, h3, this]) (fun j hj => by simp [World.frozen?, h3])
      obtain ⟨k1, cur', k2, k3, k4, k5⟩ := setCells_heap news (o + n * i.size) w cur h3
      refine ⟨_, _, _, hrun, ⟨hlen, .inr ⟨g, o, cur', rfl, h2, k2, hr, h5, by omega, fun j u hu => ?_⟩⟩, k1, fun b hb => .inl hb⟩
      rcases Nat.lt_or_ge j xs.length with hj | hj
      · rw [List.getElem?_append_left hj] at hu
        rw [k4 (o + j) (by rw [h.1] at hj; omega)]
        exact h7 j u hu
      · rw [List.getElem?_append_right hj] at hu
        have hjn : j - xs.length < news.length := by
          rcases Nat.lt_or_ge (j - xs.length) news.length with h | h
          · exact h
          · rw [List.getElem?_eq_none h] at hu; cases hu
        have := k5 (j - xs.length) hjn (by omega)
        rw [h.1] at this hj hu
        rw [show o + n * i.size + (j - n * i.size) = o + j by omega] at this
        rw [this]
        exact hu
    · obtain ⟨v', w', r1, r2, r3⟩ := run_append_arg_grows (P := P) w t ty e i z size bytes ht hi hz hsize hby hzs hsz ⟨g, o, none⟩ n c xs h.1 (fun j u hu => by rw [addr_add]; simp [World.cell?, h3, h7 j u hu]) ad m c2 news hl hnews (by omega) h63 hbytes
      obtain ⟨A', c', rfl⟩ := ownB_form r2
      refine ⟨A', c', w', r1, Que.of_own (own_mono r2 hB), ⟨r3.os, r3.tape, r3.output, r3.size, fun k hk _ => r3.block k hk (by simp)⟩, fun b hb => .inr ?_⟩
      cases A' with
      | none => simp [ablk] at hb
      | some a => simp [ablk] at hb; subst hb; exact (r2.lt _ rfl).1

theorem info_frame : (Try.prog.info? 30).map (fun i => (i.zero, i.size, i.bytes)) = some (some (.agg #[.int .u8 0, .int .u8 0, .int .u8 0, .int .u8 0, .int .u8 0, .slice none 0 0]), 6, 32) := by kernel_rfl

/-- A frame that is kept: its bytes' slice. -/
structure Kf where
  f : Fr
  A : Option Addr
  c : Nat
def Kf.cells (t : Kf) : List Value := [.int .u8 (t.f.a : Int), .int .u8 (t.f.k : Int), .int .u8 (t.f.s : Int), .int .u8 (t.f.q : Int), .int .u8 (t.f.c : Int), .slice t.A t.f.b.length t.c]
def kcs (ts : List Kf) : List Value := ts.flatMap Kf.cells
theorem kcs_length (ts : List Kf) : (kcs ts).length = ts.length * 6 := by
  induction ts with
  | nil => rfl
  | cons t r ih =>
    rw [kcs, List.flatMap_cons, List.length_append]
    rw [kcs] at ih
    rw [ih]
    simp [Kf.cells]
    omega
theorem kcs_append (a b : List Kf) : kcs (a ++ b) = kcs a ++ kcs b := by simp [kcs]
theorem kcs_drop (t : Kf) (r : List Kf) : (kcs (t :: r)).drop 6 = kcs r := by
  rw [kcs, List.flatMap_cons]
  exact List.drop_left' rfl
theorem kcs_one (ts : List Kf) : ∀ v ∈ kcs ts, v.oneCell' = true := by
  intro v hv
  simp only [kcs, List.mem_flatMap] at hv
  obtain ⟨t, _, hv⟩ := hv
  simp [Kf.cells] at hv
  rcases hv with rfl | rfl | rfl | rfl | rfl | rfl <;> rfl

/-- A row of frames, from B on. -/
structure Fq (w : World) (B : Nat) (A : Option Addr) (c : Nat) (ts : List Kf) (fs : List Fr) : Prop where
  eqs : ts.map (·.f) = fs
  que : Que w B 30 6 A fs.length c (kcs ts)
  by_ : ∀ t ∈ ts, Hb w 0 t.A t.f.b
theorem Fq.len {w : World} {B c : Nat} {A : Option Addr} {ts : List Kf} {fs : List Fr} (h : Fq w B A c ts fs) : ts.length = fs.length := by rw [← h.eqs, List.length_map]
theorem Fq.nil (w : World) (B : Nat) : Fq w B none 0 [] [] := ⟨rfl, Que.nil _ _ _ _, by intro t ht; cases ht⟩
theorem Fq.ft {w w' : World} {B B' c : Nat} {A : Option Addr} {T : List TypeId} {ts : List Kf} {fs : List Fr} (h : Fq w B A c ts fs) (hc : Ft B' T w w') (h1 : 30 ∉ T) (h2 : 5 ∉ T) : Fq w' B A c ts fs :=
  ⟨h.eqs, h.que.ft hc h1, fun t ht => (h.by_ t ht).ft hc h2 (Nat.zero_le _)⟩
theorem Fq.step {w w' : World} {B c : Nat} {A : Option Addr} {ts : List Kf} {fs : List Fr} (h : Fq w B A c ts fs) (hb : Below w.heap.size w w') : Fq w' B A c ts fs := h.ft (B' := 0) (T := []) (Ft.of_below hb) (by simp) (by simp)
theorem Fq.blk {w : World} {B c : Nat} {A : Option Addr} {ts : List Kf} {fs : List Fr} (h : Fq w B A c ts fs) : ∀ b ∈ ablk A, B ≤ b ∧ b < w.heap.size ∧ BlockIn w b [30] := by
  intro b hb
  rcases h.que.2 with ⟨rfl, _⟩ | ⟨g, o, cur, rfl, h2, h3, _⟩
  · simp [ablk] at hb
  · simp [ablk] at hb
    subst hb
    exact ⟨h2, (Array.getElem?_eq_some_iff.1 h3).1, cur, _, _, h3, by simp⟩
/-- Something of another row of frames has turned. -/
theorem Fq.other {w w' : World} {B c : Nat} {A : Option Addr} {F : List Nat} {ts : List Kf} {fs : List Fr} (h : Fq w B A c ts fs) (hc : Ch F w w') (hF : ∀ b ∈ F, BlockIn w b [30]) (hne : ∀ b ∈ ablk A, b ∉ F) : Fq w' B A c ts fs := by
  have hft : Ft 0 [30] w w' := Ft.of_ch hc (fun x hx _ => ⟨Nat.zero_le _, hF x hx⟩)
  refine ⟨h.eqs, ?_, fun t ht => (h.by_ t ht).ft hft (by decide)⟩
  refine ⟨h.que.1, ?_⟩
  rcases h.que.2 with hn | ⟨g, o, cur, rfl, h2, h3, h4⟩
  · exact .inl hn
  · exact .inr ⟨g, o, cur, rfl, h2, (hc.block g (Array.getElem?_eq_some_iff.1 h3).1 (hne g (by simp [ablk]))).trans h3, h4⟩
/-- The first of them. -/
theorem Fq.head {w : World} {B c : Nat} {A : Option Addr} {ts : List Kf} {f : Fr} {fs : List Fr} (h : Fq w B A c ts (f :: fs)) : ∃ g o t r, ts = t :: r ∧ t.f = f ∧ r.map (·.f) = fs ∧ A = some ⟨g, o, none⟩ ∧ B ≤ g ∧ fs.length + 1 ≤ c ∧
    (w.cell? ⟨g, o, none⟩ = some (.int .u8 (f.a : Int)) ∧ w.cell? ⟨g, o + 1, none⟩ = some (.int .u8 (f.k : Int)) ∧ w.cell? ⟨g, o + 2, none⟩ = some (.int .u8 (f.s : Int)) ∧ w.cell? ⟨g, o + 3, none⟩ = some (.int .u8 (f.q : Int)) ∧ w.cell? ⟨g, o + 4, none⟩ = some (.int .u8 (f.c : Int)) ∧ w.cell? ⟨g, o + 5, none⟩ = some (.slice t.A f.b.length t.c)) ∧ Hb w 0 t.A f.b := by
  cases ts with
  | nil => have := h.eqs; simp at this
  | cons t r =>
    have hfs := h.eqs
    rw [List.map_cons] at hfs
    injection hfs with h1 h2
    obtain ⟨g, o, hA, hB, _, _, hc, _⟩ := h.que.at (by simp)
    have hk := kcs_length (t :: r)
    subst h1
    refine ⟨g, o, t, r, rfl, rfl, h2, hA, hB, by have := h.que.cap.1; simpa using this, ⟨?_, ?_, ?_, ?_, ?_, ?_⟩, h.by_ t (by simp)⟩
    · exact hc 0 _ rfl
    · exact hc 1 _ rfl
    · exact hc 2 _ rfl
    · exact hc 3 _ rfl
    · exact hc 4 _ rfl
    · exact hc 5 _ rfl
/-- The first left out. -/
theorem Fq.tail {w : World} {B c g o : Nat} {ts : List Kf} {f : Fr} {fs : List Fr} (h : Fq w B (some ⟨g, o, none⟩) c ts (f :: fs)) : Fq w B (if c = 1 then some ⟨g, o, none⟩ else some ⟨g, o + 6, none⟩) (c - 1) (ts.drop 1) fs := by
  cases ts with
  | nil => have := h.eqs; simp at this
  | cons t r =>
    have hfs := h.eqs
    rw [List.map_cons] at hfs
    injection hfs with h1 h2
    have hq := h.que.drop rfl 1 (by simp)
    rw [Nat.one_mul, kcs_drop] at hq
    exact ⟨h2, hq, fun t ht => h.by_ t (by simp at ht ⊢; exact .inr ht)⟩
theorem ablk_tail (c g o : Nat) : ablk (if c = 1 then some ⟨g, o, none⟩ else some ⟨g, o + 6, none⟩) = ablk (some ⟨g, o, none⟩) := by split <;> rfl

/-- One more behind, out of a new row of one. -/
theorem wp_push {w : World} {o : Oper} {a : Act} {K : Act → World → Prop} {Q : Exit → Act → World → Prop} (s x : Operand)
    (ho : o.op = .call { callee := .builtin .append, args := #[s, x], argTypes := #[58, 58] })
    {B c X : Nat} {A : Option Addr} {ts : List Kf} {fs : List Fr} (t : Kf) (hs : a.eval s = .slice A fs.length c) (h : Fq w B A c ts fs) (hx : a.eval x = .slice (some ⟨X, 0, none⟩) 1 1)
    (hX : w.heap[X]? = some (.cells t.cells.toArray 30 (0, 0))) (hb : Hb w 0 t.A t.f.b) (h20 : fs.length ≤ 1000) (hB : B ≤ w.heap.size)
    (hK : ∀ A' c' w', Fq w' B A' c' (ts ++ [t]) (fs ++ [t.f]) → Ch (ablk A) w w' → (∀ b ∈ ablk A', b ∈ ablk A ∨ w.heap.size ≤ b) → K (a.put o.dst (.slice A' (fs.length + 1) c')) w') : o.wp Try.prog a w K Q := by
  obtain ⟨i0, hi, hz0, hz1, hz2⟩ := info_parts info_frame
  obtain ⟨A', c', w', r1, r2, r3, r4⟩ := run_append_qn (P := Try.prog) B 58 o.type 30 i0 _ 6 32 Try.underlying58 hi hz0 hz1 hz2 rfl (by decide) h.que ⟨X, 0, none⟩ 1 1 (kcs [t]) (kcs_length [t]) (by
    intro j u hu
    rw [addr_add, Nat.zero_add]
    have e : kcs [t] = t.cells := by simp [kcs]
    rw [e] at hu
    simp [World.cell?, hX]
    exact hu) (kcs_one _) (by unfold maxLen; omega) (by omega) hB
  have hft : Ft 0 [30] w w' := Ft.of_ch r3 (fun b hb _ => ⟨Nat.zero_le _, (h.blk b hb).2.2⟩)
  unfold Oper.wp
  simp [execOp, ho, resolve, invoke, builtin, hs, hx, r1, Result.andThen]
  refine hK A' c' w' ⟨by rw [List.map_append, h.eqs]; rfl, ?_, ?_⟩ r3 r4
  · rw [kcs_append, List.length_append]
    exact r2
  · intro u hu
    rw [List.mem_append] at hu
    rcases hu with hu | hu
    · exact (h.by_ u hu).ft hft (by decide)
    · simp at hu
      subst hu
      exact hb.ft hft (by decide)

end Go.Proofs.Ytabedmkhhlmbkaa
