/-
  octets.Join: all parts, one behind the other, in one new block; nothing else turns. Its contract.
-/
import Derived.Test.YtdcnmbglbopgdaaFMem
import Derived.Test.YtdcnmbglbopgdaaProg
namespace Go.Proofs.Ytdcnmbglbopgdaa
set_option linter.unusedVariables false
set_option linter.unusedSimpArgs false
open Go.RowKit

/-- A slice of slices of bytes, from P on, whose parts are ps. -/
def PartsAt (w : World) (P : Option Addr) (ps : List (List UInt8)) : Prop :=
  ∀ k l, ps[k]? = some l → ∃ b o g A c, P = some ⟨b, o, none⟩ ∧ w.cell? ⟨b, o + k, none⟩ = some (.slice A l.length c) ∧ Holds w g A (bcs l)

theorem PartsAt.keep {F : List Nat} {w w' : World} {P : Option Addr} {ps : List (List UInt8)} (h : PartsAt w P ps) (hc : Ch F w w') (hF : ∀ x ∈ F, ¬ x < w.heap.size) : PartsAt w' P ps := by
  intro k l hk
  obtain ⟨b, o, g, A, c, hP, hcell, hh⟩ := h k l hk
  have hb := World.block_lt_of_cell? w _ hcell
  refine ⟨b, o, g, A, c, hP, (hc.cell hb (fun hm => hF _ hm hb)).trans hcell, ?_⟩
  intro hl
  exact (hh.keep hc (fun _ hm => hF _ hm (hh hl).1)) hl

theorem flat_take_succ (ps : List (List UInt8)) (k : Nat) (l : List UInt8) (h : ps[k]? = some l) : (ps.take (k + 1)).flatten = (ps.take k).flatten ++ l := by
  rw [List.take_add_one, h]; simp
theorem flat_take_le (ps : List (List UInt8)) (k : Nat) : (ps.take k).flatten.length ≤ ps.flatten.length := by
  have h : ps.flatten = (ps.take k).flatten ++ (ps.drop k).flatten := by rw [← List.flatten_append, List.take_append_drop]
  rw [h]; simp

/-- How many bytes the first k parts have. -/
def tot (ps : List (List UInt8)) (k : Nat) : Nat := (ps.take k).flatten.length
theorem tot_zero (ps : List (List UInt8)) : tot ps 0 = 0 := by simp [tot]
theorem tot_all (ps : List (List UInt8)) : tot ps ps.length = ps.flatten.length := by simp [tot]
theorem tot_le (ps : List (List UInt8)) (k : Nat) : tot ps k ≤ ps.flatten.length := flat_take_le ps k
theorem tot_succ (ps : List (List UInt8)) (k : Nat) (h : k < ps.length) : tot ps (k + 1) = tot ps k + ps[k].length := by
  unfold tot
  rw [flat_take_succ ps k ps[k] (List.getElem?_eq_getElem h), List.length_append]

theorem fill_all (l : List UInt8) : fill l.length l = bcs l := by simp [fill]

/-- The bytes of the first k parts. -/
def flat (ps : List (List UInt8)) (k : Nat) : List UInt8 := (ps.take k).flatten
theorem flat_length (ps : List (List UInt8)) (k : Nat) : (flat ps k).length = tot ps k := rfl
theorem flat_succ (ps : List (List UInt8)) (k : Nat) (h : k < ps.length) : flat ps (k + 1) = flat ps k ++ ps[k] := flat_take_succ ps k ps[k] (List.getElem?_eq_getElem h)
theorem flat_all (ps : List (List UInt8)) : flat ps ps.length = ps.flatten := by simp [flat]
/-- What Join leaves: one new block, the bytes l. -/
structure Made (w w' : World) (l : List UInt8) : Prop where
  below : Below w.heap.size w w'
  row : w'.heap[w.heap.size]? = some (.cells (bcs l).toArray 5 (0, 0))

def JoinPost (w : World) (l : List UInt8) (e : Ending) (w' : World) : Prop :=
  e = .returned (.slice (some ⟨w.heap.size, 0, none⟩) l.length l.length) ∧ Made w w' l

set_option maxHeartbeats 800000 in
theorem join_any (P : Option Addr) (c : Nat) (ps : List (List UInt8)) (w : World) (hp : PartsAt w P ps) (hn : ps.length ≤ 1099511627776) (hL : ps.flatten.length ≤ 1099511627776) :
    Calls Try.prog 69 #[.slice P ps.length c] w (JoinPost w ps.flatten) := by
  obtain ⟨i0, hi, hz0, hz1, hz2⟩ := info_parts info_byte
  go_enter Try.func69, Try.ntmps69
  go_wp2
  go_loop [3, 12] (fun t i => ∃ k : Nat, k ≤ ps.length ∧ i = .int .i64 k ∧ t = .int .i64 (tot ps k : Nat)) (fun _ i => ps.length - (intOf i).toNat)
  case atStart => exact ⟨0, Nat.zero_le _, rfl, by rw [tot_zero]; rfl⟩
  case round =>
    obtain ⟨k, hk, rfl, rfl⟩ := hrel
    have hle := tot_le ps k
    by_cases hlt : k < ps.length
    · obtain ⟨b, o, g, A, c', rfl, hcell, hh⟩ := hp k ps[k] (List.getElem?_eq_getElem hlt)
      have hs := tot_succ ps k hlt
      have hl1 := tot_le ps (k + 1)
      have hsum : tot ps k + ps[k].length ≤ 1099511627776 := by omega
      have HS := Lib.hid hs
      clear hs hl1 hp hh
      go_wp2
      go_round
      case rel => exact ⟨k + 1, by omega, by go_num, by rw [HS.out]; go_num⟩
      case measure => simp [intOf]; omega
    · have hkk : k = ps.length := by omega
      subst hkk
      have HT := Lib.hid (tot_all ps)
      clear hk hlt
      generalize hT : tot ps ps.length = T at *
      have HTT := Lib.hid hT
      clear hT
      go_wp2_with (first
        | (at_make; refine wpList_make_full _ rfl (.tmp 21) (.tmp 21) 34 rfl w.heap.size 5 i0 (.int .u8 0) 1 Try.underlying34 hi hz0 hz1 .i64 .i64 _ _ T rfl rfl rfl rfl (by rw [hz2]; omega) (by unfold maxLen; omega) (Nat.le_refl _) ?_; intro w1 hown1 hgrow1))
      have hrow := row_of_own hown1
      rw [show (Value.int IntKind.u8 0).cells = #[Value.int IntKind.u8 0] from rfl, toList_madeCells_one, Nat.mul_one, ← fill_none] at hrow
      have hb1 : Below w.heap.size w w1 := (Below.refl _ _).grown hgrow1 (Nat.le_refl _) (by simp)
      have HR := Lib.hid hrow
      clear hrow hown1 hgrow1
      go_loopw [7, 25] (fun t i wr => ∃ k : Nat, k ≤ ps.length ∧ i = .int .i64 k ∧ t = .int .i64 (tot ps k : Nat) ∧ Hid (wr.heap[w.heap.size]? = some (.cells (fill T (flat ps k)).toArray 5 (0, 0))) ∧ Below w.heap.size w wr) (fun _ i _ => ps.length - (intOf i).toNat)
      case atStart => exact ⟨0, Nat.zero_le _, rfl, by rw [tot_zero]; rfl, HR, hb1⟩
      case round =>
        obtain ⟨k, hk, rfl, rfl, HRr, hbr⟩ := hrel
        have hle := tot_le ps k
        by_cases hlt : k < ps.length
        · obtain ⟨b, o, g, A, c', rfl, hcell, hh⟩ := hp k ps[k] (List.getElem?_eq_getElem hlt)
          have hs := tot_succ ps k hlt
          have hl1 := tot_le ps (k + 1)
          have hsum : tot ps k + ps[k].length ≤ T := by rw [HT.out]; omega
          have hbb := World.block_lt_of_cell? w _ hcell
          have hcell' : wr.cell? ⟨b, o + k, none⟩ = some (.slice A ps[k].length c') := (hbr.cell hbb).trans hcell
          have hh' : Holds wr g A (bcs ps[k]) := by
            intro hl
            exact (hh.keep (F := []) (Ch.of_below hbr) (by simp)) hl
          have HH := Lib.hid hh'
          have HS := Lib.hid hs
          have HSRC : Hid (0 < (bcs ps[k]).length → ∃ ad, A = some ad ∧ ∀ j v, (bcs ps[k])[j]? = some v → wr.cell? (ad.add j) = some v) := by
            intro hl
            obtain ⟨_, o', rfl, hc⟩ := hh' hl
            exact ⟨_, rfl, fun j v hv => by rw [addr_add]; exact hc j v hv⟩
          have HF : Hid (tot ps k + (bcs ps[k]).length ≤ (fill T (flat ps k)).length) := by
            show _ ≤ _
            rw [bcs_length, fill_length _ _ (by rw [flat_length]; omega)]; omega
          have HN : Hid (∀ d, ps[k].length ≤ d → (bcs ps[k]).length = Nat.min ps[k].length d) := fun d hd => by
            rw [bcs_length]; exact (Nat.min_eq_left hd).symm
          have HE : Hid ((bcs ps[k]).length = ps[k].length) := bcs_length _
          have HNX : Hid (splice (fill T (flat ps k)) (tot ps k) (bcs ps[k]) = fill T (flat ps (k + 1))) := by
            show _ = _
            rw [flat_succ ps k hlt]; exact fill_splice T (flat ps k) ps[k] (by rw [flat_length]; exact hsum)
          clear hs hl1 hp hh hh' hcell hbb HH
          by_cases htt : T = tot ps k
          · subst htt
            go_wp2_with (first
              | ((with_reducible refine wpList_copy_splice rfl (.tmp 32) (.tmp 33) 34 34 rfl 5 Try.underlying34 size_byte _ _ _ _ _ _ rfl rfl w.heap.size (tot ps k) (fill (tot ps k) (flat ps k)) 5 HRr.out (bcs ps[k]) (HN.out _ (by omega)) (fun hl => ⟨by exfalso; rw [HE.out] at hl; omega, HSRC.out hl⟩) HF.out (bcs_one _) w.heap.size w hbr (Nat.le_refl _) ?_); intro w2 HR2 hb2; rw [HNX.out] at HR2; rw [HE.out]))
            go_roundw
            case rel => exact ⟨k + 1, by omega, by go_num, by rw [HS.out]; go_num, HR2, hb2⟩
            case measure => simp [intOf]; omega
          go_wp2_with (first
            | ((with_reducible refine wpList_copy_splice rfl (.tmp 32) (.tmp 33) 34 34 rfl 5 Try.underlying34 size_byte _ _ _ _ _ _ rfl rfl w.heap.size (tot ps k) (fill T (flat ps k)) 5 HRr.out (bcs ps[k]) (HN.out _ (by omega)) (fun hl => ⟨rfl, HSRC.out hl⟩) HF.out (bcs_one _) w.heap.size w hbr (Nat.le_refl _) ?_); intro w2 HR2 hb2; rw [HNX.out] at HR2; rw [HE.out]))
          go_roundw
          case rel => exact ⟨k + 1, by omega, by go_num, by rw [HS.out]; go_num, HR2, hb2⟩
          case measure => simp [intOf]; omega
        · have hkk : k = ps.length := by omega
          subst hkk
          go_wp2
          go_ret
          have hT := HT.out
          have hr := HRr.out
          rw [flat_all, hT, fill_all] at hr
          exact ⟨congrArg (fun n => Ending.returned (.slice (some ⟨w.heap.size, 0, none⟩) n n)) hT, hbr, hr⟩

end Go.Proofs.Ytdcnmbglbopgdaa
