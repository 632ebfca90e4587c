/-
  What lamplightlaw05.ResyncTells keeps in memory: frames that it has got, while those that were told are written over.
-/
import Derived.Test.YtalolefggihloaaDoorResyncAll
import Derived.Test.YtalolefggihloaaDoorFOwn
namespace Go.Proofs.YtalolefggihloaaDoor
set_option linter.unusedVariables false
set_option linter.unusedSimpArgs false
open Go.RowKit

/-- Portions, each of at most a hundred bytes, one behind the other. -/
def ctn (ps : List (List UInt8)) (k : Nat) : List UInt8 := ((ps.take k).map (·.take 100)).flatten
theorem ctn_zero (ps : List (List UInt8)) : ctn ps 0 = [] := rfl
theorem ctn_succ (ps : List (List UInt8)) (k : Nat) (p : List UInt8) (h : ps[k]? = some p) : ctn ps (k + 1) = ctn ps k ++ p.take 100 := by
  unfold ctn
  rw [List.take_add_one, h]
  simp
theorem ctn_le (ps : List (List UInt8)) (k : Nat) : (ctn ps k).length ≤ 100 * k := by
  unfold ctn
  have key : ∀ qs : List (List UInt8), ((qs.map (·.take 100)).flatten).length ≤ 100 * qs.length := by
    intro qs
    induction qs with
    | nil => simp
    | cons q qs ih =>
      rw [List.map_cons, List.flatten_cons, List.length_append, List.length_cons, List.length_take]
      omega
  have h1 := key (ps.take k)
  have h2 : (ps.take k).length ≤ k := by rw [List.length_take]; omega
  omega

theorem Sd.far {G : List Nat} {w x y : World} {D N : Nat} {d : Dc} (h : Sd w D d N x) (hc : Ch G x y) (hG : ∀ g ∈ G, D < g) : Sd w D d N y := by
  have h1 := h.le
  exact ⟨h.tab.keep hc (fun hk => by have := hG _ hk; omega), h.dec.keep hc (fun hk => by have := hG _ hk; omega), h.below.trans (hc.belowAt (fun g hg => by have := hG _ hg; omega) h.below.size), h1⟩

/-- A row written over, one byte. -/
theorem Row.set {w : World} {g : Nat} {l : List UInt8} (h : Row w g l) (j : Nat) (b : UInt8) : Row (w.setCell ⟨g, j, none⟩ (.int .u8 (b.toNat : Int))) g (l.set j b) := by
  unfold Row at h ⊢
  rw [heap_setCell_same _ _ _ _ _ _ h, List.setIfInBounds_toArray, show (bcs l).set j (.int .u8 (b.toNat : Int)) = bcs (l.set j b) by simp [bcs, List.map_set]]

/-- An append onto a row of one's own of elements of some cells each: where it lies then. -/
theorem wp_append_at {P : Program} {w : World} {o : Oper} {a : Act} {K : Act → World → Prop} {Q : Exit → Act → World → Prop} (s x : Operand) (t : TypeId)
    (ho : o.op = .call { callee := .builtin .append, args := #[s, x], argTypes := #[t, t] })
    (base : Nat) (e : TypeId) (i : TypeInfo) (z : Value) (size bytes : Nat) (ht : P.underlying t = some (.slice e)) (hi : P.info? e = some i) (hz : i.zero = some z) (hsize : i.size = size) (hby : i.bytes = bytes) (hzs : z.cells.size = size) (hsz : 0 < size)
    (v : Value) (n : Nat) (xs : List Value) (hs : a.eval s = v) (hown : w.ownsRow base e size v n xs)
    (ad : Addr) (m c : Nat) (news : List Value) (hx : a.eval x = .slice (some ad) m c) (hm : news.length = m * size) (hc : ∀ j u, news[j]? = some u → w.cell? (ad.add j) = some u) (h1 : ∀ u ∈ news, u.oneCell' = true)
    (h63 : n + m ≤ maxLen) (hbytes : (n + m) * bytes ≤ 140737488355328) (hbase : base ≤ w.heap.size)
    (h : ∀ A' c' w', w'.ownsRow base e size (.slice A' (n + m) c') (n + m) (xs ++ news) → w.grownBy w' v.ownBlock → ((Value.slice A' (n + m) c').ownBlock = v.ownBlock ∨ (Value.slice A' (n + m) c').ownBlock = some w.heap.size) → K (a.put o.dst (.slice A' (n + m) c')) w') : o.wp P a w K Q := by
  obtain ⟨v', w', r1, r2, r3, _, r5⟩ := run_append_own_at (P := P) w base t o.type e i z size bytes ht hi hz hsize hby hzs hsz v n xs hown ad m c news hm hc h1 h63 hbytes hbase
  obtain ⟨A', c', rfl⟩ := ownB_form r2
  unfold Oper.wp
  simp [execOp, ho, resolve, invoke, builtin, hs, hx, r1, Result.andThen]
  exact h A' c' w' r2 r3 r5

/-- The state of the loop over frames that were told: lo: no more than where this portion began; hi: where the loop began. -/
structure L3 (w : World) (D : Nat) (d : Dc) (N : Nat) (A : Option Addr) (n c : Nat) (us : List Tf) (lo xb hi : Nat) (A3 : Option Addr) (mx c3 : Nat) (xs : List Tf) (q : Nat) (x : World) : Prop where
  sd : Sd w D d N x
  got : Gt x (D + 1) (.slice A n c) n us
  sep : ∀ t ∈ us, 0 < t.f.b.length → t.g < lo ∨ hi ≤ t.g
  sepO : ∀ g, (Value.slice A n c).ownBlock = some g → g < lo ∨ hi ≤ g
  xown : x.ownsRow xb 35 6 (.slice A3 mx c3) mx (tcs xs)
  xlt : ∀ g, (Value.slice A3 mx c3).ownBlock = some g → g < hi
  xin : ∀ j s, xs[j]? = some s → q ≤ j → s.In x xb
  xhi : ∀ s ∈ xs, 0 < s.f.b.length → xb ≤ s.g ∧ s.g < hi
  ap : xs.Pairwise Tf.Apart
  lo_ : lo ≤ xb
  xb_ : xb ≤ hi
  D_ : D < lo
  sz : hi ≤ x.heap.size
theorem L3.step {w x y : World} {D N n c lo xb hi mx c3 q : Nat} {d : Dc} {A A3 : Option Addr} {us xs : List Tf} (h : L3 w D d N A n c us lo xb hi A3 mx c3 xs q x) (hb : Below x.heap.size x y) : L3 w D d N A n c us lo xb hi A3 mx c3 xs q y :=
  ⟨h.sd.step hb, h.got.step hb, h.sep, h.sepO, ownB_ch h.xown (Ch.of_below hb) (by simp), h.xlt, fun j s hs hq => (h.xin j s hs hq).keep (Ch.of_below hb) (by simp), h.xhi, h.ap, h.lo_, h.xb_, h.D_, Nat.le_trans h.sz hb.size⟩
theorem L3.next {w x : World} {D N n c lo xb hi mx c3 q : Nat} {d : Dc} {A A3 : Option Addr} {us xs : List Tf} (h : L3 w D d N A n c us lo xb hi A3 mx c3 xs q x) : L3 w D d N A n c us lo xb hi A3 mx c3 xs (q + 1) x :=
  ⟨h.sd, h.got, h.sep, h.sepO, h.xown, h.xlt, fun j s hs hq => h.xin j s hs (by omega), h.xhi, h.ap, h.lo_, h.xb_, h.D_, h.sz⟩
/-- One byte of a frame that was looked at is written over. -/
theorem L3.over {w x : World} {D N n c lo xb hi mx c3 q : Nat} {d : Dc} {A A3 : Option Addr} {us xs : List Tf} {s : Tf} {ys : List UInt8} (h : L3 w D d N A n c us lo xb hi A3 mx c3 xs (q + 1) x) (hs : xs[q]? = some s) (hp : 0 < s.f.b.length) (hr : Row x s.g ys) (j : Nat) (v : Value) : L3 w D d N A n c us lo xb hi A3 mx c3 xs (q + 1) (x.setCell ⟨s.g, j, none⟩ v) := by
  have hc : Ch [s.g] x (x.setCell ⟨s.g, j, none⟩ v) := (Ch.refl _ x).setCell (by simp) _
  obtain ⟨h1, h2⟩ := h.xhi s (List.mem_of_getElem? hs) hp
  have h3 := h.lo_
  have h4 := h.D_
  refine ⟨h.sd.far hc (fun g hg => by simp at hg; omega), h.got.keep hc (fun g hg => ?_) (fun t ht htp => ?_), h.sep, h.sepO, ownB_ch h.xown hc (fun g hg => ?_), h.xlt, fun i r hr' hq => ?_, h.xhi, h.ap, h.lo_, h.xb_, h.D_, Nat.le_trans h.sz hc.size⟩
  · simp
    rintro rfl
    exact own_row h.got.own hr hg.symm
  · have := h.sep t ht htp
    simp
    omega
  · simp
    rintro rfl
    exact own_row h.xown hr hg.symm
  · refine (h.xin i r hr' hq).keep hc (fun hrp => ?_)
    simp
    intro he
    have hqi : q < i := by omega
    have hil : i < xs.length := by
      rcases Nat.lt_or_ge i xs.length with h | h
      · exact h
      · rw [List.getElem?_eq_none h] at hr'; cases hr'
    have hap := List.pairwise_iff_getElem.1 h.ap q i (by omega) hil hqi
    rw [List.getElem?_eq_getElem hil] at hr'
    rw [List.getElem?_eq_getElem (by omega)] at hs
    injection hr' with hr'
    injection hs with hs
    rw [hr', hs] at hap
    exact hap hp hrp he.symm
/-- One frame more is got. -/
theorem L3.more {w x y : World} {D N n c c' lo xb hi mx c3 q : Nat} {d : Dc} {A A' A3 : Option Addr} {us xs : List Tf} {t : Tf} (h : L3 w D d N A n c us lo xb hi A3 mx c3 xs q x) (hh : Holds x t.g t.A (bcs t.f.b)) (ht : 0 < t.f.b.length → hi ≤ t.g)
    (ho : y.ownsRow (D + 1) 35 6 (.slice A' (n + 1) c') (n + 1) (tcs us ++ tcs [t])) (hg : x.grownBy y (Value.slice A n c).ownBlock) (hat : (Value.slice A' (n + 1) c').ownBlock = (Value.slice A n c).ownBlock ∨ (Value.slice A' (n + 1) c').ownBlock = some x.heap.size)
    (hown : ∀ g, (Value.slice A n c).ownBlock = some g → 0 < t.f.b.length → g ≠ t.g) : L3 w D d N A' (n + 1) c' (us ++ [t]) lo xb hi A3 mx c3 xs q y := by
  have hc : Ch (Value.slice A n c).ownBlock.toList x y := grown_ch hg
  have hm : ∀ g, g ∈ (Value.slice A n c).ownBlock.toList ↔ (Value.slice A n c).ownBlock = some g := by intro g; simp
  have h3 := h.lo_
  have h4 := h.D_
  have h5 := h.sz
  have hlt : ∀ g, (Value.slice A n c).ownBlock = some g → D + 1 ≤ g ∧ g < x.heap.size := fun g hg' => h.got.own.lt g hg'
  refine ⟨h.sd.far hc (fun g hg' => by have := (hlt g ((hm g).1 hg')).1; omega), ⟨by rw [tcs_append]; exact ho, by rw [List.length_append, h.got.len]; rfl, fun u hu => ?_, fun u hu hp => ?_, fun u hu hp g hg' => ?_⟩, fun u hu hp => ?_, fun g hg' => ?_, ownB_ch h.xown hc (fun g hg' hk => ?_), h.xlt, fun j s hs hq => (h.xin j s hs hq).keep hc (fun hp hk => ?_), h.xhi, h.ap, h.lo_, h.xb_, h.D_, Nat.le_trans h.sz hc.size⟩
  · rcases List.mem_append.1 hu with h1 | h1
    · refine (h.got.hold u h1).keep hc (fun hp hk => ?_)
      rw [bcs_length] at hp
      exact h.got.apo u h1 hp _ ((hm _).1 hk) rfl
    · simp at h1
      subst h1
      refine hh.keep hc (fun hp hk => ?_)
      rw [bcs_length] at hp
      exact hown _ ((hm _).1 hk) hp rfl
  · rcases List.mem_append.1 hu with h1 | h1
    · exact h.got.from_ u h1 hp
    · simp at h1
      subst h1
      have := ht hp
      have := h.xb_
      omega
  · have hul : u.g < x.heap.size ∧ ∀ g, (Value.slice A n c).ownBlock = some g → u.g ≠ g := by
      rcases List.mem_append.1 hu with h1 | h1
      · exact ⟨h.got.lt u h1 hp, h.got.apo u h1 hp⟩
      · simp at h1
        subst h1
        exact ⟨(hh (by rw [bcs_length]; exact hp)).1, fun g hg' => Ne.symm (hown g hg' hp)⟩
    rcases hat with h1 | h1
    · exact hul.2 g (by rw [← h1]; exact hg')
    · rw [h1] at hg'
      injection hg' with hg'
      omega
  · rcases List.mem_append.1 hu with h1 | h1
    · exact h.sep u h1 hp
    · simp at h1
      subst h1
      exact .inr (ht hp)
  · rcases hat with h1 | h1
    · exact h.sepO g (by rw [← h1]; exact hg')
    · rw [h1] at hg'
      injection hg' with hg'
      right
      omega
  · have h1 := h.sepO g ((hm g).1 hk)
    have h2 := h.xlt g hg'
    have h6 := (h.xown.lt g hg').1
    omega
  · have hb := ((h.xin j s hs hq).row hp).2.2.1
    exact own_row h.got.own hb ((hm _).1 hk).symm

theorem L3.cells {w x : World} {D N n c lo xb hi mx c3 q gx : Nat} {d : Dc} {A : Option Addr} {us xs : List Tf} (h : L3 w D d N A n c us lo xb hi (some ⟨gx, 0, none⟩) mx c3 xs q x) (hm : xs.length = mx) {k : Nat} {s : Tf} (hs : xs[k]? = some s) :
    x.cell? ⟨gx, k * 6, none⟩ = some (.int .u8 (s.f.a : Int)) ∧ x.cell? ⟨gx, k * 6 + 1, none⟩ = some (.int .u8 (s.f.k : Int)) ∧ x.cell? ⟨gx, k * 6 + 2, none⟩ = some (.int .u8 (s.f.s : Int)) ∧ x.cell? ⟨gx, k * 6 + 3, none⟩ = some (.int .u8 (s.f.q : Int)) ∧ x.cell? ⟨gx, k * 6 + 4, none⟩ = some (.int .u8 (s.f.c : Int)) ∧ x.cell? ⟨gx, k * 6 + 5, none⟩ = some (.slice s.A s.f.b.length s.c) := by
  have hk : k < xs.length := by
    rcases Nat.lt_or_ge k xs.length with h | h
    · exact h
    · rw [List.getElem?_eq_none h] at hs; cases hs
  obtain ⟨g, hg, _, _, h6⟩ := own_cell6 h.xown hm k hk
  injection hg with hg
  injection hg with hg
  subst hg
  rw [List.getElem?_eq_getElem hk] at hs
  injection hs with hs
  rw [hs] at h6
  exact h6

/-- What is known at the end: all that was got, and what the document tells. -/
structure Te (w : World) (D : Nat) (d : Dc) (N : Nat) (A : Option Addr) (n c : Nat) (ts : List Tf) (B' : Nat) (AA : Option Addr) (ca : Nat) (fs : List Fr) (R : Nat) (x : World) : Prop where
  sd : Sd w D d N x
  got : Gt x (D + 1) (.slice A n c) n ts
  ref : x.ownsRow B' 45 6 (.slice AA n ca) n (rcs fs)
  row : x.heap[R]? = some (.cells (acs (.slice AA n ca) d.errs d.held.length).toArray 38 (0, 0))
theorem Te.step {w x y : World} {D N n c B' ca R : Nat} {d : Dc} {A AA : Option Addr} {ts : List Tf} {fs : List Fr} (h : Te w D d N A n c ts B' AA ca fs R x) (hb : Below x.heap.size x y) : Te w D d N A n c ts B' AA ca fs R y :=
  ⟨h.sd.step hb, h.got.step hb, ownB_ch h.ref (Ch.of_below hb) (by simp), (hb.block _ (Array.getElem?_eq_some_iff.1 h.row).1).trans h.row⟩
theorem Te.cells {w x : World} {D N n c B' ca R : Nat} {d : Dc} {A AA : Option Addr} {ts : List Tf} {fs : List Fr} (h : Te w D d N A n c ts B' AA ca fs R x) : x.cell? ⟨R, 0, none⟩ = some (.slice AA n ca) ∧ x.cell? ⟨R, 1, none⟩ = some (.int .i64 (d.errs 0 : Int)) ∧ x.cell? ⟨R, 2, none⟩ = some (.int .i64 (d.errs 1 : Int)) ∧ x.cell? ⟨R, 3, none⟩ = some (.int .i64 (d.errs 2 : Int)) ∧ x.cell? ⟨R, 4, none⟩ = some (.int .i64 (d.errs 3 : Int)) ∧ x.cell? ⟨R, 5, none⟩ = some (.int .i64 (d.errs 4 : Int)) ∧ x.cell? ⟨R, 6, none⟩ = some (.int .i64 (d.errs 5 : Int)) ∧ x.cell? ⟨R, 7, none⟩ = some (.int .i64 (d.errs 6 : Int)) ∧ x.cell? ⟨R, 8, none⟩ = some (.int .i64 (d.errs 7 : Int)) ∧ x.cell? ⟨R, 9, none⟩ = some (.int .i64 (d.errs 8 : Int)) ∧ x.cell? ⟨R, 10, none⟩ = some (.int .i64 (d.errs 9 : Int)) ∧ x.cell? ⟨R, 11, none⟩ = some (.int .i64 (d.errs 10 : Int)) ∧ x.cell? ⟨R, 12, none⟩ = some (.int .i64 (d.errs 11 : Int)) ∧ x.cell? ⟨R, 13, none⟩ = some (.int .i64 (d.held.length : Int)) := by
  have hr := h.row
  rw [acs_lit] at hr
  obtain ⟨q0, q1, q2, q3, q4, q5, q6, q7, q8, q9, q10, q11, q12, q13, -⟩ := row14 hr
  exact ⟨q0, q1, q2, q3, q4, q5, q6, q7, q8, q9, q10, q11, q12, q13⟩

end Go.Proofs.YtalolefggihloaaDoor
