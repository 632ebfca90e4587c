/-
  A wire by what it holds; few and texts of lamplightlaw06, as they stand: what they answer.
-/
import Derived.Test.YthpalepkilmpiaaWireE
namespace Go.Proofs.Ythpalepkilmpiaa
set_option linter.unusedVariables false
set_option linter.unusedSimpArgs false
open Go.RowKit

/-- A wire at D, from D on, that has these rows on their way; nothing that was there in w has turned. -/
structure Lw (w : World) (D : Nat) (room : Int) (qs : List Rw) (x : World) : Prop where
  wire : ∃ rs, Wi x D D room rs ∧ rs.map (·.r) = qs
  below : Below w.heap.size w x
  le : w.heap.size ≤ D
theorem Lw.step {w x y : World} {D : Nat} {room : Int} {qs : List Rw} (h : Lw w D room qs x) (hb : Below x.heap.size x y) : Lw w D room qs y := by
  obtain ⟨rs, h1, h2⟩ := h.wire
  exact ⟨⟨rs, h1.step hb, h2⟩, h.below.trans (hb.mono h.below.size), h.le⟩
theorem Lw.ft {w x y : World} {B D : Nat} {T : List TypeId} {room : Int} {qs : List Rw} (h : Lw w D room qs x) (hc : Ft B T x y) (hB : w.heap.size ≤ B) (h1 : 57 ∉ T) (h2 : 61 ∉ T) (h3 : 5 ∉ T) : Lw w D room qs y := by
  obtain ⟨rs, h4, h5⟩ := h.wire
  exact ⟨⟨rs, h4.ft hc h1 h2 h3, h5⟩, h.below.trans ((hc.mono hB (T' := T) (fun _ h => h)).below h.below.size), h.le⟩
theorem Lw.lt {w x : World} {D : Nat} {room : Int} {qs : List Rw} (h : Lw w D room qs x) : D < x.heap.size := by
  obtain ⟨rs, h4, h5⟩ := h.wire
  exact h4.lt

theorem new_lw {w x : World} {room : Int} (hr : room ≤ 9223372036854775807) (hb : Below w.heap.size w x) : Calls Try.prog 10 #[.int .i64 room] x fun e y => e = .returned (.pointer (some ⟨x.heap.size, 0, none⟩)) ∧ Lw w x.heap.size (max room 1) [] y ∧ Below x.heap.size x y := by
  refine (new_on hr).mono ?_
  rintro e y ⟨rfl, h1, h2, _⟩
  exact ⟨rfl, ⟨⟨[], h1, rfl⟩, hb.trans (h2.mono hb.size), hb.size⟩, h2⟩
theorem len_lw {w x : World} {D : Nat} {room : Int} {qs : List Rw} (h : Lw w D room qs x) : Calls Try.prog 21 #[.pointer (some ⟨D, 0, none⟩)] x fun e w' => e = .returned (.int .i64 (qs.length : Int)) ∧ w' = x := by
  obtain ⟨rs, h4, h5⟩ := h.wire
  refine (len_on h4).mono ?_
  rintro e y ⟨rfl, rfl⟩
  rw [← h5, List.length_map]
  exact ⟨rfl, rfl⟩
theorem put_lw {w x : World} {D g n c gB bc : Nat} {room : Int} {qs : List Rw} {A AB : Option Addr} {l : List UInt8} {f : Fl} (hw : Lw w D room qs x) (hql : qs.length ≤ 1000000) (h : Holds x g A (bcs l)) (hn : l.length = n) (hle : n ≤ 1000000) (hc : n ≤ c) (hcm : c ≤ maxLen) (hB : Holds x gB AB (bcs f.b)) (hbc : f.b.length ≤ bc) (hbm : bc ≤ maxLen) :
    Calls Try.prog 17 #[.pointer (some ⟨D, 0, none⟩), .slice A n c, .agg #[.int .i64 f.k, .int .i64 f.n, .int .u8 (f.y.toNat : Int), .slice AB f.b.length bc]] x fun e y => e = .returned (.int .i64 (putM room qs f l).2) ∧ Lw w D room (putM room qs f l).1 y ∧ Ft D [57, 61] x y := by
  obtain ⟨rs, h4, h5⟩ := hw.wire
  subst h5
  refine (put_on h4 (Nat.le_of_lt hw.lt) (by simpa using hql) h hn hle hc hcm hB hbc hbm).mono ?_
  rintro e y ⟨rs', rfl, h1, h2, h3⟩
  exact ⟨rfl, ⟨⟨rs', h1, h2⟩, hw.below.trans ((h3.mono hw.le (T' := [57, 61]) (fun _ h => h)).below hw.below.size), hw.le⟩, h3⟩
theorem take_lw {w x : World} {D : Nat} {room : Int} {qs : List Rw} (hw : Lw w D room qs x) (hql : qs.length ≤ 1000000) : Calls Try.prog 19 #[.pointer (some ⟨D, 0, none⟩)] x fun e y => ∃ V n c vs, e = .returned (.slice V n c) ∧ Rp y D V n c vs (takeM qs).1 ∧ Lw w D room (takeM qs).2 y ∧ Ft D [57, 61] x y := by
  obtain ⟨rs, h4, h5⟩ := hw.wire
  subst h5
  refine (take_on h4 (Nat.le_of_lt hw.lt) (by simpa using hql)).mono ?_
  rintro e y ⟨V, n, c, vs, rs', rfl, h0, h1, h2, h3⟩
  exact ⟨V, n, c, vs, rfl, h0, ⟨⟨rs', h1, h2⟩, hw.below.trans ((h3.mono hw.le (T' := [57, 61]) (fun _ h => h)).below hw.below.size), hw.le⟩, h3⟩

theorem few_on {w : World} {n c : Nat} {A : Option Addr} (hn : n ≤ c) (hc : c ≤ maxLen) : Calls Try.prog 12 #[.slice A n c] w fun e w' => e = .returned (.slice A (min n 200) c) ∧ w' = w := by
  obtain ⟨q, hq⟩ : ∃ q : Nat, (if (200 : Int) < (n : Int) then (200 : Int) else (n : Int)) = (q : Int) := ⟨min n 200, by split <;> omega⟩
  have HQ : Hid (q = min n 200) := by
    show _ = _
    split at hq <;> omega
  have hqc : (q : Int) ≤ (c : Int) := by
    have := HQ.out
    omega
  have hcm : c ≤ 9223372036854775807 := by unfold maxLen at hc; omega
  rw [← HQ.out]
  go_enter Try.func12, Try.ntmps12
  go_wp2
  go_ret
  exact ⟨rfl, rfl⟩

/-- Texts, as cells. -/
def scs (ps : List (List UInt8)) : List Value := ps.map fun p => .string ⟨p.toArray⟩
theorem scs_length (ps : List (List UInt8)) : (scs ps).length = ps.length := by simp [scs]
theorem scs_get {ps : List (List UInt8)} {k : Nat} {l : List UInt8} (h : ps[k]? = some l) : (scs ps)[k]? = some (.string ⟨l.toArray⟩) := by simp [scs, h]

set_option maxRecDepth 20000 in
set_option maxHeartbeats 800000 in
theorem texts_on {w : World} {B g n c c' : Nat} {V S : Option Addr} {vs : List Value} {ps : List (List UInt8)} (h : Rp w B V n c vs ps) (hs : Holds w g S (scs ps)) (hn : n ≤ 1000000) : Calls Try.prog 13 #[.slice V n c, .slice S n c'] w fun e w' => e = .returned (.bool true) ∧ Below w.heap.size w w' := by
  have H := Lib.hid h
  have HS := Lib.hid hs
  clear h hs
  go_enter Try.func13, Try.ntmps13
  go_wp2
  go_loopw [5] (fun i wr => ∃ k : Nat, k ≤ n ∧ i = .int .i64 k ∧ Hid (Below w.heap.size w wr)) (fun i _ => n - (intOf i).toNat)
  case atStart => exact ⟨0, Nat.zero_le _, rfl, Lib.hid (Below.refl _ _)⟩
  case round =>
    obtain ⟨k, hk, rfl, HB⟩ := hrel
    by_cases hlt : k < n
    · have hlt' : (k : Int) < (n : Int) := by omega
      have H1 := H.out.step (HB.out.trans ((drew_below wr).mono HB.out.size))
      obtain ⟨gv, A, l, cl, rfl, _, _, _, hpk, hcell, _, hown⟩ := H1.at k hlt
      have hsl := scs_get hpk
      obtain ⟨_, o, rfl, hsc⟩ := (HS.out.keep (F := []) (Ch.of_below (HB.out.trans ((drew_below wr).mono HB.out.size))) (by simp)) (by rw [scs_length]; have := List.getElem?_eq_some_iff.1 hpk; obtain ⟨h, _⟩ := this; omega)
      have hst := hsc k _ hsl
      have hcv := convert_own (own_zero hown) rfl
      clear hsl hsc hown hpk H1
      go_upto_region 6 with fail
      refine region_plan [(true, 0), (true, 1), (true, 2), (true, 3), (true, 4), (true, 5), (true, 6), (true, 7), (true, 8), (true, 9)]
        (fun x => x.cell? ⟨gv, k, none⟩ = some (.slice A l.length cl) ∧ x.cell? ⟨g, o + k, none⟩ = some (.string ⟨l.toArray⟩) ∧ (convert 28 9 (.slice A l.length cl)).run Try.prog x = .ok (.string ⟨l.toArray⟩) x) (by kernel_rfl) (by kernel_rfl) (by kernel_rfl) rfl ⟨hcell, hst, hcv⟩ ?_
      clear hcell hst hcv
      generalize l.length = ll at *
      iterate 10 (refine Plan.take (v := ?_) rfl (by rfl) ?_ ?_; rotate_left 1; (focus (intro x hx; go_simp <;> (first | with_reducible rfl | rw [if_pos (by omega)]))); simp only [Act.put, List.setIfInBounds_toArray, List.set_cons_zero, List.set_cons_succ])
      refine Plan.done ?_
      go_wp2
      go_roundw
      case rel => exact ⟨k + 1, by omega, by go_num, Lib.hid (HB.out.trans ((drew_below wr).mono HB.out.size))⟩
      case measure => simp [intOf]; omega
    · have hkm : k = n := by omega
      subst hkm
      go_wp2
      go_ret
      exact ⟨rfl, HB.out⟩

end Go.Proofs.Ythpalepkilmpiaa
