/-
  The document's buttons (lamplightref10.Buttons) in memory; its calls, as they stand: what they answer.
-/
import Derived.Test.YtgpgaeakioellaaButC
import Derived.Test.YtgpgaeakioellaaFClone
import Derived.Great.BuildSlice
import Derived.OwnWalk
import Derived.Deep.DeepCutAuto
namespace Go.Proofs.Ytgpgaeakioellaa
set_option linter.unusedVariables false
set_option linter.unusedSimpArgs false
open Go.RowKit

theorem ft_grown {w w' : World} {B n size : Nat} {e : TypeId} {v : Value} {xs : List Value} (h : w.ownsRow B e size v n xs) (hg : w.grownBy w' v.ownBlock) : Ft B [e] w w' :=
  ⟨hg.os, hg.tape, hg.output, hg.size, fun k hk hb => hg.block k hk (fun heq => by
    rcases h.2 with ⟨rfl, _⟩ | ⟨g, cap, cur, rfl, h1, h2, _⟩
    · simp [Value.ownBlock] at heq
    · simp [Value.ownBlock] at heq
      subst heq
      rcases hb with hb | hb
      · omega
      · exact hb ⟨cur, e, (0, 0), h2, by simp⟩)⟩
def evc1 (e : Ev) : List Value := [.int .i64 e.b, .bool e.t, .bool e.d, .int .i64 e.n]
def evc (l : List Ev) : List Value := l.flatMap evc1
theorem evc_cons (e : Ev) (l : List Ev) : evc (e :: l) = .int .i64 e.b :: .bool e.t :: .bool e.d :: .int .i64 e.n :: evc l := rfl
theorem evc_append (a b : List Ev) : evc (a ++ b) = evc a ++ evc b := by simp [evc]
theorem evc_length (l : List Ev) : (evc l).length = l.length * 4 := by
  induction l with
  | nil => rfl
  | cons e t ih => rw [evc_cons]; simp [ih]; omega
theorem evc_get : ∀ {l : List Ev} {k : Nat} (h : k < l.length), (evc l)[k * 4]? = some (.int .i64 l[k].b) ∧ (evc l)[k * 4 + 1]? = some (.bool l[k].t) ∧ (evc l)[k * 4 + 2]? = some (.bool l[k].d) ∧ (evc l)[k * 4 + 3]? = some (.int .i64 l[k].n)
  | [], k, h => by simp at h
  | e :: t, 0, _ => by simp [evc_cons]
  | e :: t, k + 1, h => by
    have := evc_get (l := t) (k := k) (by simpa using h)
    rw [evc_cons]
    rw [show (k + 1) * 4 = k * 4 + 1 + 1 + 1 + 1 by omega, show k * 4 + 1 + 1 + 1 + 1 + 1 = (k * 4 + 1) + 1 + 1 + 1 + 1 by omega, show k * 4 + 1 + 1 + 1 + 1 + 2 = (k * 4 + 2) + 1 + 1 + 1 + 1 by omega, show k * 4 + 1 + 1 + 1 + 1 + 3 = (k * 4 + 3) + 1 + 1 + 1 + 1 by omega]
    simp only [List.getElem?_cons_succ, List.getElem_cons_succ]
    exact this
/-- The document's buttons at R: all that was set, and told. -/
structure R10 (w : World) (R : Nat) (l : List Ev) : Prop where
  ex : ∃ A c, w.heap[R]? = some (.cells #[.slice A l.length c] 33 (0, 0)) ∧ w.ownsRow R 57 4 (.slice A l.length c) l.length (evc l)
theorem R10.lt {w : World} {R : Nat} {l : List Ev} (h : R10 w R l) : R < w.heap.size := by
  obtain ⟨A, c, k1, _⟩ := h.ex
  exact (Array.getElem?_eq_some_iff.1 k1).1
theorem R10.ft {w w' : World} {B R : Nat} {Ts : List TypeId} {l : List Ev} (h : R10 w R l) (hf : Ft B Ts w w') (h1 : 33 ∉ Ts) (h2 : 57 ∉ Ts) : R10 w' R l := by
  obtain ⟨A, c, k1, k2⟩ := h.ex
  exact ⟨A, c, hf.keep k1 h1, own_ft k2 hf h2⟩
theorem R10.step {w w' : World} {R : Nat} {l : List Ev} (h : R10 w R l) (hb : Below w.heap.size w w') : R10 w' R l := h.ft (B := 0) (Ts := []) (Ft.of_below hb) (by simp) (by simp)
theorem R10.ch {w w' : World} {D R : Nat} {l : List Ev} (h : R10 w R l) (hc : Ch [D] w w') (hD : D < R) : R10 w' R l := by
  obtain ⟨A, c, k1, k2⟩ := h.ex
  refine ⟨A, c, (hc.block R h.lt (by simp; omega)).trans k1, ⟨k2.1, ?_⟩⟩
  rcases k2.2 with hn | ⟨g, cap, cur, hv, hb, hh, r⟩
  · exact .inl hn
  · exact .inr ⟨g, cap, cur, hv, hb, (hc.block g (Array.getElem?_eq_some_iff.1 hh).1 (by simp; omega)).trans hh, r⟩
/-- What is read of it. -/
theorem R10.c0 {w : World} {R : Nat} {l : List Ev} (h : R10 w R l) : ∃ A c, w.cell? ⟨R, 0, none⟩ = some (.slice A l.length c) ∧ w.frozen? ⟨R, 0, none⟩ = false ∧ l.length ≤ c ∧
    ∀ k (hk : k < l.length), ∃ g, A = some ⟨g, 0, none⟩ ∧ w.cell? ⟨g, k * 4, none⟩ = some (.int .i64 l[k].b) ∧ w.cell? ⟨g, k * 4 + 1, none⟩ = some (.bool l[k].t) ∧ w.cell? ⟨g, k * 4 + 2, none⟩ = some (.bool l[k].d) ∧ w.cell? ⟨g, k * 4 + 3, none⟩ = some (.int .i64 l[k].n) := by
  obtain ⟨A, c, k1, k2⟩ := h.ex
  have hc : l.length ≤ c := by
    rcases k2.2 with ⟨hh, h0⟩ | ⟨_, _, _, hh, _, _, h3, _⟩
    · injection hh with _ h5 h6; omega
    · injection hh with _ _ h6; omega
  refine ⟨A, c, by simp [World.cell?, k1], by simp [World.frozen?, k1], hc, fun k hk => ?_⟩
  rcases k2.2 with ⟨_, h0⟩ | ⟨g, cap, cur, hv, hb, hh, r⟩
  · omega
  · injection hv with hA _ hc'
    subst hA
    obtain ⟨q1, q2, q3, q4⟩ := evc_get hk
    exact ⟨g, rfl, by rw [k2.cellAt _ (by omega)]; exact q1, by rw [k2.cellAt _ (by omega)]; exact q2, by rw [k2.cellAt _ (by omega)]; exact q3, by rw [k2.cellAt _ (by omega)]; exact q4⟩
theorem R10.zero (w : World) : R10 (w.alloc (.cells #[.slice none 0 0] 33)) w.heap.size [] := ⟨none, 0, heap_alloc_new w _, World.ownsRow_nil _ _ _ _⟩

set_option maxRecDepth 20000 in
set_option maxHeartbeats 3200000 in
theorem rsince_on {w : World} {R : Nat} {l : List Ev} {n : Int} (h : R10 w R l) (hm : l.length ≤ 100000) : Calls Try.prog 17 #[.pointer (some ⟨R, 0, none⟩), .int .i64 n] w fun e w' =>
    e = .returned (.tuple #[.int .i64 (evs l n).s, .bool (evs l n).d, .bool (evs l n).t]) ∧ Below w.heap.size w w' := by
  have HR := Lib.hid h
  have HE0 : Hid (evs (l.take 0) n = bt0) := Lib.hid rfl
  have HB0 : Hid (Below w.heap.size w w) := Lib.hid (Below.refl _ _)
  have HM := Lib.hid hm
  obtain ⟨m, hlm⟩ : ∃ m, l.length = m := ⟨_, rfl⟩
  have HL := Lib.hid hlm
  rw [hlm] at hm
  clear h hlm
  go_enter Try.func17, Try.ntmps17
  go_wp2
  go_loopw [7, 8, 9, 10] (fun dv tv sv iv wr => ∃ (i : Nat), i ≤ m ∧ dv = .bool (evs (l.take i) n).d ∧ tv = .bool (evs (l.take i) n).t ∧ sv = .int .i64 (evs (l.take i) n).s ∧ iv = .int .i64 i ∧ Hid (Below w.heap.size w wr)) (fun _ _ _ iv _ => m - (intOf iv).toNat)
  case atStart => exact ⟨0, Nat.zero_le _, rfl, rfl, rfl, rfl, HB0⟩
  case round =>
    clear HB0 HE0
    obtain ⟨i, hi, rfl, rfl, rfl, rfl, HB⟩ := hrel
    rename World => x
    have hrx := HR.out.step HB.out
    obtain ⟨A, c, c0, _, hlc, hat⟩ := hrx.c0
    rw [HL.out] at c0 hlc
    by_cases hlt : i < m
    · have hil : i < l.length := by rw [HL.out]; exact hlt
      have hlt1 : (i : Int) < (m : Int) := by omega
      obtain ⟨g, rfl, e0, e1, e2, e3⟩ := hat i hil
      have HEV := Lib.hid (evs_take hil n)
      unfold evStep at HEV
      generalize l[i] = v at *
      generalize evs (l.take i) n = b at *
      generalize hbn : evs (l.take (i + 1)) n = bn at *
      have HBN := Lib.hid hbn
      obtain ⟨vb, vt, vd, vn⟩ := v
      obtain ⟨bd, bsn, bt⟩ := b
      simp only at e0 e1 e2 e3 HEV ⊢
      clear hbn hrx hat hil
      have hb6 := new_below x (.cells #[.int .i64 vb, .bool vt, .bool vd, .int .i64 vn] 57)
      have HB6 := Lib.hid (HB.out.trans (hb6.mono HB.out.size))
      go_upto_region 8 with fail
      have hd6 := heap_alloc_new x (.cells #[.int .i64 vb, .bool vt, .bool vd, .int .i64 vn] 57)
      clear e0 e1 e2 e3 c0 hb6 HB
      generalize x.alloc (.cells #[.int .i64 vb, .bool vt, .bool vd, .int .i64 vn] 57) = x6 at *
      generalize x.heap.size = X at *
      have e0 : x6.cell? ⟨X, 0, none⟩ = some (.int .i64 vb) := by simp [World.cell?, hd6]
      have e1 : x6.cell? ⟨X, 1, none⟩ = some (.bool vt) := by simp [World.cell?, hd6]
      have e2 : x6.cell? ⟨X, 2, none⟩ = some (.bool vd) := by simp [World.cell?, hd6]
      have e3 : x6.cell? ⟨X, 3, none⟩ = some (.int .i64 vn) := by simp [World.cell?, hd6]
      clear hd6
      by_cases hvn : vb = n
      · subst hvn
        cases vt with
        | true =>
          have HQ : Hid (bn = ⟨bd, bsn, true⟩) := by show _ = _; rw [HEV.out]; simp
          clear HEV
          go_wp2
          go_roundw
          case rel => exact ⟨i + 1, by omega, by rw [HBN.out, HQ.out], by rw [HBN.out, HQ.out], by rw [HBN.out, HQ.out], by go_num, HB6⟩
          case measure => simp [intOf]; omega
        | false =>
          cases vd with
          | true =>
            cases bd with
            | true =>
              have HQ : Hid (bn = ⟨true, bsn, bt⟩) := by show _ = _; rw [HEV.out]; simp
              clear HEV
              go_wp2
              go_roundw
              case rel => exact ⟨i + 1, by omega, by rw [HBN.out, HQ.out], by rw [HBN.out, HQ.out], by rw [HBN.out, HQ.out], by go_num, HB6⟩
              case measure => simp [intOf]; omega
            | false =>
              have HQ : Hid (bn = ⟨true, vn, false⟩) := by show _ = _; rw [HEV.out]; simp
              clear HEV
              go_wp2
              go_roundw
              case rel => exact ⟨i + 1, by omega, by rw [HBN.out, HQ.out], by rw [HBN.out, HQ.out], by rw [HBN.out, HQ.out], by go_num, HB6⟩
              case measure => simp [intOf]; omega
          | false =>
            have HQ : Hid (bn = ⟨false, bsn, bt⟩) := by show _ = _; rw [HEV.out]; simp
            clear HEV
            go_wp2
            go_roundw
            case rel => exact ⟨i + 1, by omega, by rw [HBN.out, HQ.out], by rw [HBN.out, HQ.out], by rw [HBN.out, HQ.out], by go_num, HB6⟩
            case measure => simp [intOf]; omega
      · have hvn' : (vb == n) = false := by simpa using hvn
        have HQ : Hid (bn = ⟨bd, bsn, bt⟩) := by show _ = _; rw [HEV.out, if_pos hvn]
        clear HEV hvn
        go_wp2
        go_roundw
        case rel => exact ⟨i + 1, by omega, by rw [HBN.out, HQ.out], by rw [HBN.out, HQ.out], by rw [HBN.out, HQ.out], by go_num, HB6⟩
        case measure => simp [intOf]; omega
    · have hkn : m = i := by omega
      subst hkn
      have HTK : Hid (l.take m = l) := Lib.hid (List.take_of_length_le (by rw [HL.out]; exact Nat.le_refl _))
      rw [HTK.out]
      clear hrx hat
      go_wp2
      go_ret3
      exact ⟨rfl, HB.out⟩

theorem info_event : (Try.prog.info? 57).map (fun i => (i.zero, i.size, i.bytes)) = some (some (.agg #[.int .i64 0, .bool false, .bool false, .int .i64 0]), 4, 24) := by kernel_rfl
/-- A slice of one of them. -/
theorem wp_oneEv {w : World} {o : Oper} {a : Act} {K : Act → World → Prop} {Q : Exit → Act → World → Prop} (x : Operand) (ho : o.op = .buildSlice 31 1 #[(0, x)]) {e : Ev} (hx : a.eval x = .agg #[.int .i64 e.b, .bool e.t, .bool e.d, .int .i64 e.n])
    (h : K (a.put o.dst (.slice (some ⟨w.heap.size, 0, none⟩) 1 1)) (w.alloc (.cells (evc1 e).toArray 57))) : o.wp Try.prog a w K Q := by
  obtain ⟨i0, hi, hz0, hz1, hz2⟩ := info_parts info_event
  refine wp_buildSlice 31 57 1 #[(0, x)] ho (evc1 e).toArray i0 _ Try.underlying31 hi hz0 (by rw [hz1]; decide) (by rw [hz1]; decide) ?_ h
  rw [hz1]
  simp only [List.map_toArray, List.map_cons, List.map_nil, hx]
  first
    | kernel_rfl
    | (simp [go_sem]; done)
    | (simp [Instr.fill]; done)
/-- While an event is put behind it. -/
structure Rpre (w : World) (R : Nat) (l : List Ev) (v : Ev) (A : Option Addr) (c : Nat) : Prop where
  hd : w.heap[R]? = some (.cells #[.slice A l.length c] 33 (0, 0))
  own : (w.alloc (.cells (evc1 v).toArray 57)).ownsRow R 57 4 (.slice A l.length c) l.length (evc l)
  hd2 : (w.alloc (.cells (evc1 v).toArray 57)).heap[R]? = some (.cells #[.slice A l.length c] 33 (0, 0))
  new : Holds (w.alloc (.cells (evc1 v).toArray 57)) w.heap.size (some ⟨w.heap.size, 0, none⟩) (evc1 v)
  le : R ≤ (w.alloc (.cells (evc1 v).toArray 57)).heap.size
  cell : w.cell? ⟨R, 0, none⟩ = some (.slice A l.length c)
theorem R10.pre {w : World} {R : Nat} {l : List Ev} (h : R10 w R l) (v : Ev) : ∃ A c, Rpre w R l v A c := by
  obtain ⟨A, c, k1, k2⟩ := h.ex
  have hb := new_below w (.cells (evc1 v).toArray 57)
  have hR := h.lt
  refine ⟨A, c, k1, own_ft (B := 0) (T := []) k2 (Ft.of_below hb) (by simp), (hb.block R hR).trans k1, Holds.of_row (heap_alloc_new w _), ?_, by simp [World.cell?, k1]⟩
  have := hb.size
  omega
/-- Behind the append, and the store. -/
theorem Rpre.post {w y : World} {R : Nat} {l : List Ev} {v : Ev} {A A' : Option Addr} {c c' : Nat} (h : Rpre w R l v A c) (ho : y.ownsRow R 57 4 (.slice A' (l.length + 1) c') (l.length + 1) (evc l ++ evc1 v))
    (hg : (w.alloc (.cells (evc1 v).toArray 57)).grownBy y (Value.slice A l.length c).ownBlock) :
    y.cell? ⟨R, 0, none⟩ = some (.slice A l.length c) ∧ y.frozen? ⟨R, 0, none⟩ = false ∧ R10 (y.setCell ⟨R, 0, none⟩ (.slice A' (l.length + 1) c')) R (l ++ [v]) ∧ Ft R [33, 57] w (y.setCell ⟨R, 0, none⟩ (.slice A' (l.length + 1) c')) := by
  have hft := ft_grown h.own hg
  have hd3 := hft.keep h.hd2 (by decide)
  have h1 := heap_setCell_same y R 0 _ 33 (.slice A' (l.length + 1) c') hd3
  have h2 : Ch [R] y (y.setCell ⟨R, 0, none⟩ (.slice A' (l.length + 1) c')) := (Ch.refl [R] y).setCell (p := ⟨R, 0, none⟩) (fun _ => by simp) _
  have hf2 : Ft R [33] y (y.setCell ⟨R, 0, none⟩ (.slice A' (l.length + 1) c')) := Ft.of_ch h2 (fun z hz _ => by simp at hz; subst hz; exact ⟨Nat.le_refl _, _, _, _, hd3, by simp⟩)
  refine ⟨by simp [World.cell?, hd3], by simp [World.frozen?, hd3], ⟨A', c', ?_, ?_⟩, ?_⟩
  · have e : (l ++ [v]).length = l.length + 1 := by simp
    rw [e, h1]
    rfl
  · have e : (l ++ [v]).length = l.length + 1 := by simp
    rw [e, evc_append]
    have e2 : evc [v] = evc1 v := by simp [evc]
    rw [e2]
    exact own_ft ho hf2 (by decide)
  · have hb : Ft R [33, 57] w (w.alloc (.cells (evc1 v).toArray 57)) := Ft.of_below (new_below w _)
    exact (hb.trans (hft.mono (Nat.le_refl _) (by simp))).trans (hf2.mono (Nat.le_refl _) (by simp))

end Go.Proofs.Ytgpgaeakioellaa
