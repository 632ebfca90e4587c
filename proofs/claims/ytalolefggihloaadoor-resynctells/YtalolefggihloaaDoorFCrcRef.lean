/-
  lamplightref02.Sum and Sealed, the document's answer: the sum as what a division leaves; bytes with it. What they answer; nothing that was there is turned.
-/
import Derived.Test.YtalolefggihloaaDoorFCrcPlaces
import Derived.Test.YtalolefggihloaaDoorFOwn
import Derived.Test.YtalolefggihloaaDoorFCrcDiv
namespace Go.Proofs.YtalolefggihloaaDoor
set_option linter.unusedVariables false
set_option linter.unusedSimpArgs false
open Go.RowKit

def bls (xs : List Bool) : List Value := xs.map Value.bool
theorem bls_length (xs : List Bool) : (bls xs).length = xs.length := by simp [bls]
theorem bls_append (xs ys : List Bool) : bls (xs ++ ys) = bls xs ++ bls ys := by simp [bls]
theorem bls_one (xs : List Bool) : ∀ v ∈ bls xs, v.oneCell' = true := by
  intro v hv
  simp only [bls, List.mem_map] at hv
  obtain ⟨b, _, rfl⟩ := hv
  rfl
theorem bls_set (xs : List Bool) (j : Nat) (b : Bool) : (bls xs).set j (.bool b) = bls (xs.set j b) := by simp [bls, List.map_set]

/-- A row of bools of one's own, from block B on. -/
structure BRow (w : World) (B g n c : Nat) (xs : List Bool) : Prop where
  own : w.ownsRow 0 4 1 (.slice (some ⟨g, 0, none⟩) n c) n (bls xs)
  from_ : B ≤ g
  len : xs.length = n
theorem BRow.cell {w : World} {B g n c : Nat} {xs : List Bool} (h : BRow w B g n c xs) (j : Nat) (hj : j < xs.length) : w.cell? ⟨g, j, none⟩ = some (.bool xs[j]) := by
  rw [h.own.cellAt j (by have := h.len; omega), bls, List.getElem?_map, List.getElem?_eq_getElem hj]
  rfl
theorem BRow.cell' {w : World} {B g n c : Nat} {xs : List Bool} (h : BRow w B g n c xs) {j : Nat} {b : Bool} (hj : xs[j]? = some b) : w.cell? ⟨g, j, none⟩ = some (.bool b) := by
  obtain ⟨hl, rfl⟩ := List.getElem?_eq_some_iff.1 hj
  exact h.cell j hl
theorem BRow.frozen {w : World} {B g n c : Nat} {xs : List Bool} (h : BRow w B g n c xs) (j : Nat) : w.frozen? ⟨g, j, none⟩ = false := h.own.frozenAt j
theorem BRow.set {w : World} {B g n c : Nat} {xs : List Bool} (h : BRow w B g n c xs) (j : Nat) (b : Bool) : BRow (w.setCell ⟨g, j, none⟩ (.bool b)) B g n c (xs.set j b) :=
  ⟨by rw [← bls_set]; exact (h.own.stored j _).1, h.from_, by rw [List.length_set]; exact h.len⟩
theorem BRow.alloc {w : World} {B g n c : Nat} {xs : List Bool} (h : BRow w B g n c xs) (o : Obj) : BRow (w.alloc o) B g n c xs := ⟨h.own.alloc o, h.from_, h.len⟩
/-- Behind an append of one. -/
theorem BRow.grown {w w' : World} {B g n c n' c' : Nat} {V' : Option Addr} {xs ys : List Bool} (h : BRow w B g n c xs) (hB : B ≤ w.heap.size) (hn : ys.length = n') (hp : 0 < n') (ho : w'.ownsRow 0 4 1 (.slice V' n' c') n' (bls ys))
    (hat : (Value.slice V' n' c').ownBlock = (Value.slice (some ⟨g, 0, none⟩) n c).ownBlock ∨ (Value.slice V' n' c').ownBlock = some w.heap.size) : ∃ g', V' = some ⟨g', 0, none⟩ ∧ BRow w' B g' n' c' ys := by
  rcases ho.2 with ⟨_, h0⟩ | ⟨g', cap, cur, hv, _⟩
  · omega
  · injection hv with hV _ _
    subst hV
    refine ⟨g', rfl, ho, ?_, hn⟩
    have hf := h.from_
    rcases hat with h1 | h1
    · simp [Value.ownBlock] at h1; omega
    · simp [Value.ownBlock] at h1; omega

theorem info_bool : (Tryd.prog.info? 4).map (fun i => (i.zero, i.size, i.bytes)) = some (some (.bool false), 1, 1) := by kernel_rfl

/-- The j-th bit of a byte, as the document takes it. -/
theorem bit_of (b : UInt8) (j : Nat) (hj : j < 8) : (bitsOf b)[j]? = some (b.toNat / (128 / 2 ^ j) % 2 == 1) := by
  have h : ∀ x : BitVec 8, ∀ j : Fin 8, [x.getLsbD 7, x.getLsbD 6, x.getLsbD 5, x.getLsbD 4, x.getLsbD 3, x.getLsbD 2, x.getLsbD 1, x.getLsbD 0][j.val]? = some (x.toNat / (128 / 2 ^ j.val) % 2 == 1) := by decide +kernel
  exact h b.toBitVec ⟨j, hj⟩
theorem bits_step (l : List UInt8) (i j : Nat) (hi : i < l.length) (hj : j < 8) : bitsOn (l.take i) ++ (bitsOf l[i]).take (j + 1) = (bitsOn (l.take i) ++ (bitsOf l[i]).take j) ++ [l[i].toNat / (128 / 2 ^ j) % 2 == 1] := by
  rw [List.take_add_one, bit_of _ _ hj, List.append_assoc]
  rfl
theorem bits_next (l : List UInt8) (i : Nat) (hi : i < l.length) : bitsOn (l.take (i + 1)) = bitsOn (l.take i) ++ (bitsOf l[i]).take 8 := by
  rw [List.take_add_one, List.getElem?_eq_getElem hi, show (bitsOf l[i]).take 8 = bitsOf l[i] from rfl]
  simp [bitsOn, -List.take_append_getElem]

set_option maxHeartbeats 4000000 in
set_option maxRecDepth 100000 in
theorem ref_sum (l : List UInt8) (w : World) (hl : l.length ≤ 1000000) : Calls Tryd.prog 43 #[.string ⟨l.toArray⟩] w fun e w' => e = .returned (.int .u16 ((sum l).toNat : Int)) ∧ Below w.heap.size w w' := by
  obtain ⟨i0, hi, hz0, hz1, hz2⟩ := info_parts info_bool
  go_enter Tryd.func43, Tryd.ntmps43
  go_wp2
  go_loopw [3, 4] (fun v i wr => ∃ (k g n c : Nat), k ≤ l.length ∧ i = .int .i64 k ∧ v = .slice (some ⟨g, 0, none⟩) n c ∧ Hid (BRow wr w.heap.size g n c (bitsOn (l.take k))) ∧ Hid (Below w.heap.size w wr)) (fun _ i _ => l.length - (intOf i).toNat)
  case atStart => exact ⟨0, _, 0, 0, by omega, rfl, rfl, ⟨World.ownsRow_made w #[] 0 (Nat.zero_le _) (Nat.zero_le _) rfl, Nat.le_refl _, rfl⟩, ((Ch.refl [] w).alloc _).below (by simp)⟩
  case round =>
    obtain ⟨k, g, n, c, hk, rfl, rfl, HB, HW⟩ := hrel
    by_cases hlt : k < l.length
    · have HN := Lib.hid (bits_next l k hlt)
      go_wp2
      go_loopw [3, 5] (fun v i wr => ∃ (j g n c : Nat), j ≤ 8 ∧ i = .int .i64 ((128 / 2 ^ j : Nat) : Int) ∧ v = .slice (some ⟨g, 0, none⟩) n c ∧ Hid (BRow wr w.heap.size g n c (bitsOn (l.take k) ++ (bitsOf l[k]).take j)) ∧ Hid (Below w.heap.size w wr)) (fun _ i _ => (intOf i).toNat)
      case atStart => exact ⟨0, g, n, c, by omega, rfl, rfl, by rw [List.take_zero, List.append_nil]; exact HB, HW⟩
      case round =>
        obtain ⟨j, g, n, c, hj, rfl, rfl, HB, HW⟩ := hrel
        by_cases hj8 : j < 8
        · have HST := Lib.hid (bits_step l k j hlt hj8)
          have hb : l[k].toNat < 256 := l[k].toNat_lt
          obtain ⟨b, hlb⟩ : ∃ b, l[k].toNat = b := ⟨_, rfl⟩
          rw [hlb] at hb HST
          have hidx : ∀ h : k < (ByteArray.mk l.toArray).size, ((ByteArray.mk l.toArray)[k]'h).toNat = b := fun h => hlb
          clear hlb
          have hxl : (bitsOn (l.take k) ++ (bitsOf l[k]).take j).length = n := HB.out.len
          have hnl : n ≤ 8000016 := by
            rw [← hxl, List.length_append, bitsOn_len, List.length_take, List.length_take]; omega
          generalize bitsOn (l.take k) ++ (bitsOf l[k]).take j = xs at *
          have hkn : (128 / 2 ^ (j + 1) : Nat) = 128 / 2 ^ j / 2 := by rw [Nat.pow_succ, Nat.div_div_eq_div_mul]
          have hkp : 0 < 128 / 2 ^ j := Nat.div_pos (Nat.pow_le_pow_right (n := 2) (i := j) (j := 7) (by omega) (by omega)) (Nat.pow_pos (by omega))
          have hkl : 128 / 2 ^ j ≤ 128 := Nat.div_le_self _ _
          generalize (128 / 2 ^ j : Nat) = kk at *
          have HKN := Lib.hid hkn
          obtain ⟨d, hd⟩ : ∃ d, b / kk = d := ⟨_, rfl⟩
          have hdl : d ≤ b := by rw [← hd]; exact Nat.div_le_self _ _
          have hq1 : (b : Int).tdiv (kk : Int) = (d : Int) := by rw [← hd]; rfl
          have hq2 : (b : Int) / (kk : Int) = (d : Int) := by rw [← hd]; rfl
          obtain ⟨t, ht⟩ : ∃ t : Bool, (d % 2 == 1) = t := ⟨_, rfl⟩
          have ht1 : ((d : Int).tmod 2 == 1) = t := by
            rw [← ht, Bool.eq_iff_iff, beq_iff_eq, beq_iff_eq, Int.tmod_eq_emod_of_nonneg (by omega)]; omega
          have ht2 : ((d : Int) % 2 == 1) = t := by
            rw [← ht, Bool.eq_iff_iff, beq_iff_eq, beq_iff_eq]; omega
          rw [hd, ht] at HST
          have hkz : ((kk : Int) == 0) = false := by rw [beq_eq_false_iff_ne]; omega
          clear hd ht hkn
          have HB2 := Lib.hid (HB.out.alloc (.cells #[.bool t] 4))
          have HW2 : Hid (Below w.heap.size w (wr.alloc (.cells #[.bool t] 4))) := HW.out.alloc HW.out.size _
          have HR2 : Hid (Holds (wr.alloc (.cells #[.bool t] 4)) wr.heap.size (some ⟨wr.heap.size, 0, none⟩) (bls [t])) := Holds.of_row (cs := bls [t]) (fz := (0, 0)) (heap_alloc_new wr _)
          have HZ : Hid (w.heap.size ≤ (wr.alloc (.cells #[.bool t] 4)).heap.size) := by have := HW.out.size; show _ ≤ _; simp; omega
          clear HB HW
          go_wp2_with (first
            | (at_builtin; refine wpList_append_holds rfl (.tmp 22) (.tmp 31) 57 rfl 4 i0 (.bool false) 1 Tryd.underlying57 hi hz0 hz1 hz2 rfl (.slice (some ⟨g, 0, none⟩) n c) n (bls xs) rfl HB2.out.own wr.heap.size (some ⟨wr.heap.size, 0, none⟩) 1 1 (bls [t]) rfl rfl HR2.out (bls_one _) (by unfold maxLen; omega) (by omega) ?_; intro V5 c5 w5 hown5 hgrow5 hat5))
          obtain ⟨g5, rfl, hb5⟩ := HB2.out.grown (ys := xs ++ [t]) HZ.out (by rw [List.length_append, hxl]; rfl) (by omega) (by rw [bls_append]; exact hown5) hat5
          refine ⟨⟨j + 1, g5, n + 1, c5, by omega, by rw [HKN.out]; rfl, rfl, ?_, ?_⟩, ?_⟩
          · rw [HST.out]; exact hb5
          · exact HW2.out.grown hgrow5 HZ.out (fun g hg => by simp [Value.ownBlock] at hg; have := HB2.out.from_; omega)
          · simp [intOf]; omega
        · have hj88 : j = 8 := by omega
          subst hj88
          rw [← HN.out] at HB
          go_wp2
          go_roundw
          case rel => exact ⟨k + 1, g, n, c, by omega, by go_num, rfl, HB, HW⟩
          case measure => simp [intOf]; omega
    · have hkk : k = l.length := by omega
      subst hkk
      rw [List.take_length] at HB
      have hxl : (bitsOn l).length = n := HB.out.len
      have hnl : n ≤ 8000000 := by rw [← hxl, bitsOn_len]; omega
      have HXL := Lib.hid hxl
      clear hxl
      go_wp2
      go_loopw [3, 6] (fun v i wr => ∃ (j g n c : Nat), j ≤ 16 ∧ i = .int .i64 j ∧ v = .slice (some ⟨g, 0, none⟩) n c ∧ Hid (BRow wr w.heap.size g n c (bitsOn l ++ List.replicate j false)) ∧ Hid (Below w.heap.size w wr)) (fun _ i _ => 16 - (intOf i).toNat)
      case atStart => exact ⟨0, g, n, c, by omega, rfl, rfl, by rw [List.replicate_zero, List.append_nil]; exact HB, HW⟩
      case round =>
        obtain ⟨j, g, n, c, hj, rfl, rfl, HB, HW⟩ := hrel
        by_cases hj16 : j < 16
        · have hxl : (bitsOn l ++ List.replicate j false).length = n := HB.out.len
          have hnl : n ≤ 8000016 := by rw [← hxl, List.length_append, bitsOn_len, List.length_replicate]; omega
          have HST : Hid (bitsOn l ++ List.replicate (j + 1) false = (bitsOn l ++ List.replicate j false) ++ [false]) := by
            show _ = _
            rw [show List.replicate (j + 1) false = List.replicate j false ++ [false] from List.replicate_succ', List.append_assoc]
          generalize bitsOn l ++ List.replicate j false = xs at *
          have HB2 := Lib.hid (HB.out.alloc (.cells #[.bool false] 4))
          have HW2 : Hid (Below w.heap.size w (wr.alloc (.cells #[.bool false] 4))) := HW.out.alloc HW.out.size _
          have HR2 : Hid (Holds (wr.alloc (.cells #[.bool false] 4)) wr.heap.size (some ⟨wr.heap.size, 0, none⟩) (bls [false])) := Holds.of_row (cs := bls [false]) (fz := (0, 0)) (heap_alloc_new wr _)
          have HZ : Hid (w.heap.size ≤ (wr.alloc (.cells #[.bool false] 4)).heap.size) := by have := HW.out.size; show _ ≤ _; simp; omega
          clear HB HW
          go_wp2_with (first
            | (at_builtin; refine wpList_append_holds rfl (.tmp 37) (.tmp 38) 57 rfl 4 i0 (.bool false) 1 Tryd.underlying57 hi hz0 hz1 hz2 rfl (.slice (some ⟨g, 0, none⟩) n c) n (bls xs) rfl HB2.out.own wr.heap.size (some ⟨wr.heap.size, 0, none⟩) 1 1 (bls [false]) rfl rfl HR2.out (bls_one _) (by unfold maxLen; omega) (by omega) ?_; intro V5 c5 w5 hown5 hgrow5 hat5))
          obtain ⟨g5, rfl, hb5⟩ := HB2.out.grown (ys := xs ++ [false]) HZ.out (by rw [List.length_append, hxl]; rfl) (by omega) (by rw [bls_append]; exact hown5) hat5
          have HW5 : Hid (Below w.heap.size w w5) := HW2.out.grown hgrow5 HZ.out (fun g hg => by simp [Value.ownBlock] at hg; have := HB2.out.from_; omega)
          rw [← HST.out] at hb5
          go_roundw
          case rel => exact ⟨j + 1, g5, n + 1, c5, by omega, by go_num, rfl, hb5, HW5⟩
          case measure => simp [intOf]; omega
        · have hj1 : j = 16 := by omega
          subst hj1
          have hxl : (bitsOn l ++ List.replicate 16 false).length = n := HB.out.len
          have hn8 : n = 8 * l.length + 16 := by rw [← hxl, List.length_append, bitsOn_len, List.length_replicate]
          have HXL := Lib.hid hxl
          have HWA := Lib.hid (Win_all l)
          have HSU : Hid (sumF 0xFFFF#16 l = sum l) := rfl
          generalize bitsOn l ++ List.replicate 16 false = X at *
          generalize hL : l.length = L at *
          clear hxl hnl
          subst hn8
          go_wp2
          go_loopw [7] (fun i wr => ∃ (j : Nat), j ≤ 16 ∧ i = .int .i64 j ∧ Hid (BRow wr w.heap.size g (8 * L + 16) c (flipTo X j)) ∧ Hid (Below w.heap.size w wr)) (fun i _ => 16 - (intOf i).toNat)
          case atStart => exact ⟨0, by omega, rfl, by rw [flipTo_zero]; exact HB, HW⟩
          case round =>
            obtain ⟨j, hj, rfl, HB, HW⟩ := hrel
            by_cases hj16 : j < 16
            · have hjx : j < X.length := by rw [HXL.out]; omega
              have hg := flipTo_get X j hjx
              have hjf : j < (flipTo X j).length := by rw [flipTo_length X j (by omega)]; exact hjx
              have hc := HB.out.cell j hjf
              have hf := HB.out.frozen j
              have he : (flipTo X j)[j] = X[j] := by
                rw [List.getElem?_eq_getElem hjf] at hg
                exact Option.some.inj hg
              rw [he] at hc
              have hjn : (j : Int) < 8 * (L : Int) + 16 := by omega
              have HB2 := Lib.hid (HB.out.set j (!X[j]))
              rw [flipTo_step X j hjx] at HB2
              have HW2 := Lib.hid (HW.out.setCell (p := ⟨g, j, none⟩) HB.out.from_ (.bool (!X[j])))
              generalize X[j] = xj at *
              clear hg he hjf HB HW
              go_wp2
              go_roundw
              case rel => exact ⟨j + 1, by omega, by go_num, HB2, HW2⟩
              case measure => simp [intOf]; omega
            · have hj1 : j = 16 := by omega
              subst hj1
              rw [flipTo_all X (by rw [HXL.out]; omega)] at HB
              go_wp2
              go_loopw [8] (fun i wr => ∃ (j : Nat), j ≤ 8 * L ∧ i = .int .i64 j ∧ Hid (BRow wr w.heap.size g (8 * L + 16) c (Arr X j)) ∧ Hid (Below w.heap.size w wr)) (fun i _ => 8 * L - (intOf i).toNat)
              case atStart => exact ⟨0, by omega, rfl, HB, HW⟩
              case round =>
                obtain ⟨j, hj, rfl, HB, HW⟩ := hrel
                by_cases hjL : j < 8 * L
                · have hjX : j + 16 < X.length := by rw [HXL.out]; omega
                  have h0 : (Arr X j)[j]? = some ((Win X j).getLsbD 15) := Arr_get X j 0 (by omega)
                  have h4 : (Arr X j)[j + 4]? = some ((Win X j).getLsbD 11) := Arr_get X j 4 (by omega)
                  have h11 : (Arr X j)[j + 11]? = some ((Win X j).getLsbD 4) := Arr_get X j 11 (by omega)
                  have h16 := Arr_next X j hjX
                  have hjL' : (j : Int) + 16 < 8 * (L : Int) + 16 := by omega
                  have hjn : (j : Int) < 8 * (L : Int) + 16 := by omega
                  cases hx : (Win X j).getLsbD 15
                  · rw [hx] at h0
                    have hc := HB.out.cell' h0
                    rw [Arr_no X j hjX hx] at HB
                    clear h0 h4 h11 h16
                    go_wp2
                    go_roundw
                    case rel => exact ⟨j + 1, by omega, by go_num, HB, HW⟩
                    case measure => simp [intOf]; omega
                  · rw [hx] at h0
                    have hY := Lib.hid (Arr_yes X j hjX hx)
                    have hc0 := HB.out.cell' h0
                    have hf0 := HB.out.frozen j
                    generalize (Win X j).getLsbD 11 = b4 at *
                    generalize (Win X j).getLsbD 4 = b11 at *
                    generalize X[j + 16] = b16 at *
                    generalize Arr X j = A0 at *
                    have hj4 : (j : Int) + 4 < 8 * (L : Int) + 16 := by omega
                    have hj11 : (j : Int) + 11 < 8 * (L : Int) + 16 := by omega
                    go_upto_region 22 with (fail)
                    have HB1 := Lib.hid (HB.out.set j false)
                    have HW1 := Lib.hid (HW.out.setCell (p := ⟨g, j, none⟩) HB.out.from_ (.bool false))
                    generalize World.setCell _ ⟨g, j, none⟩ (.bool false) = y1 at *
                    have hc1 : y1.cell? ⟨g, j + 4, none⟩ = some (.bool b4) := HB1.out.cell' (by rw [List.getElem?_set_ne (by omega)]; exact h4)
                    have hf1 := HB1.out.frozen (j + 4)
                    clear hc0 hf0 HB HW h0
                    go_upto_region 23 with (fail)
                    have HB2 := Lib.hid (HB1.out.set (j + 4) (!b4))
                    have HW2 := Lib.hid (HW1.out.setCell (p := ⟨g, j + 4, none⟩) HB1.out.from_ (.bool (!b4)))
                    generalize World.setCell _ ⟨g, j + 4, none⟩ (.bool (!b4)) = y2 at *
                    have hc2 : y2.cell? ⟨g, j + 11, none⟩ = some (.bool b11) := HB2.out.cell' (by rw [List.getElem?_set_ne (by omega), List.getElem?_set_ne (by omega)]; exact h11)
                    have hf2 := HB2.out.frozen (j + 11)
                    clear hc1 hf1 HB1 HW1
                    go_upto_region 24 with (fail)
                    have HB3 := Lib.hid (HB2.out.set (j + 11) (!b11))
                    have HW3 := Lib.hid (HW2.out.setCell (p := ⟨g, j + 11, none⟩) HB2.out.from_ (.bool (!b11)))
                    generalize World.setCell _ ⟨g, j + 11, none⟩ (.bool (!b11)) = y3 at *
                    have hc3 : y3.cell? ⟨g, j + 16, none⟩ = some (.bool b16) := HB3.out.cell' (by rw [List.getElem?_set_ne (by omega), List.getElem?_set_ne (by omega), List.getElem?_set_ne (by omega)]; exact h16)
                    have hf3 := HB3.out.frozen (j + 16)
                    clear hc2 hf2 HB2 HW2
                    have HB4 := Lib.hid (HB3.out.set (j + 16) (!b16))
                    rw [hY.out] at HB4
                    have HW4 := Lib.hid (HW3.out.setCell (p := ⟨g, j + 16, none⟩) HB3.out.from_ (.bool (!b16)))
                    clear HB3 HW3
                    go_wp2
                    go_roundw
                    case rel => exact ⟨j + 1, by omega, by go_num, HB4, HW4⟩
                    case measure => simp [intOf]; omega
                · have hj1 : j = 8 * L := by omega
                  subst hj1
                  have HV : Hid (∀ k, k < 16 → (Arr X (8 * L))[8 * L + k]? = some ((sum l).getLsbD (15 - k))) := by
                    intro k hk
                    rw [Arr_get X _ k hk, HWA.out]
                  have hv := (sum l).isLt
                  have HHN := Lib.hid (horner (sum l))
                  go_wp2
                  go_loopw [9, 10] (fun s i wr => ∃ (j : Nat), j ≤ 16 ∧ i = .int .i64 ((8 * L + j : Nat) : Int) ∧ s = .int .u16 (((sum l).toNat / 2 ^ (16 - j) : Nat) : Int) ∧ Hid (BRow wr w.heap.size g (8 * L + 16) c (Arr X (8 * L))) ∧ Hid (Below w.heap.size w wr)) (fun _ i _ => 8 * L + 16 - (intOf i).toNat)
                  case atStart => exact ⟨0, by omega, by go_num, by rw [Nat.div_eq_of_lt hv]; rfl, HB, HW⟩
                  case round =>
                    obtain ⟨j, hj, rfl, rfl, HB, HW⟩ := hrel
                    by_cases hj16 : j < 16
                    · have hh := HHN.out j hj16
                      have hc := HB.out.cell' (HV.out j hj16)
                      have hml : (sum l).toNat / 2 ^ (16 - j) ≤ 32767 := by
                        have h1 : (sum l).toNat / 2 ^ (16 - j) ≤ (sum l).toNat / 2 ^ 1 := Nat.div_le_div_left (Nat.pow_le_pow_right (by omega) (by omega)) (by omega)
                        omega
                      have HH1 := Lib.hid hh
                      generalize (sum l).toNat / 2 ^ (16 - j) = m0 at *
                      generalize (sum l).getLsbD (15 - j) = bit at *
                      clear hh
                      have hjL : (8 * (L : Int) + (j : Int)) < 8 * (L : Int) + 16 := by omega
                      cases bit
                      · rw [if_neg (by decide), Nat.add_zero] at HH1
                        go_wp2
                        go_roundw
                        case rel => exact ⟨j + 1, by omega, by go_num, by rw [HH1.out]; go_num, HB, HW⟩
                        case measure => simp [intOf]; omega
                      · rw [if_pos rfl] at HH1
                        go_wp2
                        go_roundw
                        case rel => exact ⟨j + 1, by omega, by go_num, by rw [HH1.out]; go_num, HB, HW⟩
                        case measure => simp [intOf]; omega
                    · have hj1 : j = 16 := by omega
                      subst hj1
                      go_wp2
                      go_ret
                      refine ⟨?_, HW.out⟩
                      simp

end Go.Proofs.YtalolefggihloaaDoor
