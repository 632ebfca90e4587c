/-
  lamplightlaw02.CrcLinear answers true, and turns nothing that was there: the walk.
-/
import Derived.Test.YtcboklkpfjefmaaDoorCrcByteMem
import Derived.Test.YtcboklkpfjefmaaDoorFacts
import Derived.StillTailTactics
import Derived.Laws.Cover1
namespace Go.Proofs.YtcboklkpfjefmaaDoor
set_option linter.unusedVariables false
set_option linter.unusedSimpArgs false
open Go.RowKit

/-- The xor of two rows of bytes, as far as j; noughts behind. -/
def xorTo (a b : List UInt8) (m j : Nat) : List UInt8 := (List.zipWith (· ^^^ ·) a b).take j ++ List.replicate (m - j) 0
theorem xorTo_length (a b : List UInt8) (m j : Nat) (ha : a.length = m) (hb : b.length = m) (hj : j ≤ m) : (xorTo a b m j).length = m := by
  simp [xorTo, ha, hb]; omega
theorem xorTo_all (a b : List UInt8) (m : Nat) (ha : a.length = m) (hb : b.length = m) : xorTo a b m m = List.zipWith (· ^^^ ·) a b := by
  simp [xorTo]
  exact List.take_of_length_le (by simp [ha, hb])
theorem xorTo_zero (a b : List UInt8) (m : Nat) : xorTo a b m 0 = List.replicate m 0 := by simp [xorTo]
theorem xorTo_step (a b : List UInt8) (m j : Nat) (ha : a.length = m) (hb : b.length = m) (hj : j < m) : (xorTo a b m j).set j (a[j]'(by omega) ^^^ b[j]'(by omega)) = xorTo a b m (j + 1) := by
  unfold xorTo
  have hz : (List.zipWith (· ^^^ ·) a b).length = m := by simp [ha, hb]
  have hl : ((List.zipWith (· ^^^ ·) a b).take j).length = j := by rw [List.length_take, hz]; omega
  rw [List.set_append_right _ _ (by rw [hl]; exact Nat.le_refl _), hl, Nat.sub_self, List.take_add_one, List.getElem?_eq_getElem (by rw [hz]; exact hj)]
  rw [show m - j = (m - (j + 1)) + 1 by omega, List.replicate_succ, List.set_cons_zero]
  simp

theorem linear_sum (a b : List UInt8) (m : Nat) (ha : a.length = m) (hb : b.length = m) : sum (List.zipWith (· ^^^ ·) a b) = sum a ^^^ sum b ^^^ sum (List.replicate m 0) := by
  have h1 := sumF_xor a b 0xFFFF#16 0xFFFF#16 (by rw [ha, hb])
  have hz : (List.zipWith (· ^^^ ·) a b).length = m := by simp [ha, hb]
  have h2 := sumF_xor (List.zipWith (· ^^^ ·) a b) (List.replicate m 0) (0xFFFF#16 ^^^ 0xFFFF#16) 0xFFFF#16 (by rw [hz]; simp)
  rw [h1, show (0xFFFF#16 ^^^ 0xFFFF#16 ^^^ 0xFFFF#16 : BitVec 16) = 0xFFFF#16 by decide] at h2
  rw [sum, sum, sum, sum, ← h2]
  congr 1
  have := zip_zero (List.zipWith (· ^^^ ·) a b)
  rw [hz] at this
  exact this.symm

theorem min3 (n n' b : Nat) (c : Int) (hc : (b : Int) = c) : ∃ m : Nat, m ≤ b ∧ m ≤ n ∧ m ≤ n' ∧ (if c < (if n' < n then (n' : Int) else (n : Int)) then c else if n' < n then (n' : Int) else (n : Int)) = (m : Int) := by
  subst hc
  by_cases h1 : n' < n
  · rw [if_pos h1]
    by_cases h2 : (b : Int) < (n' : Int)
    · exact ⟨b, Nat.le_refl _, by omega, by omega, by rw [if_pos h2]⟩
    · exact ⟨n', by omega, by omega, by omega, by rw [if_neg h2]⟩
  · rw [if_neg h1]
    by_cases h2 : (b : Int) < (n : Int)
    · exact ⟨b, Nat.le_refl _, by omega, by omega, by rw [if_pos h2]⟩
    · exact ⟨n, by omega, by omega, by omega, by rw [if_neg h2]⟩

theorem PartsAt.keep {w w' : World} {P : Option Addr} {ps : List (List UInt8)} (h : PartsAt w P ps) (hb : Below w.heap.size w w') : PartsAt w' P ps := by
  intro k l hk
  obtain ⟨b, o, g, A, c, hP, hcell, hh⟩ := h k l hk
  have hbl := World.block_lt_of_cell? w _ hcell
  exact ⟨b, o, g, A, c, hP, (hb.cell (p := ⟨b, o + k, none⟩) hbl).trans hcell, hh.keep (Ch.of_below hb) (by simp)⟩

/-- A slice that is made, as one step of a region that draws. -/
theorem wp_make_full {P : Program} {w : World} {o : Oper} {a : Act} {K : Act → World → Prop} {Q : Exit → Act → World → Prop} (l : Operand) (t : TypeId) (hop : o.op = Op.makeSlice t l l)
    (base : Nat) (e : TypeId) (i : TypeInfo) (z : Value) (size : Nat) (h1 : P.underlying t = some (.slice e)) (h2 : P.info? e = some i) (h3 : i.zero = some z) (h4 : i.size = size)
    (kl : IntKind) (L : Int) (n : Nat) (hl : a.eval l = .int kl L) (hL : L = (n : Int)) (b2 : i.bytes * n ≤ 281474976710656) (b3 : n ≤ maxLen) (b4 : base ≤ w.heap.size)
    (hK : ∀ w', w'.ownsRow base e size (.slice (some ⟨w.heap.size, 0, none⟩) n n) n (madeCells z.cells (n * size)).toList → w.grownBy w' none → K (a.put o.dst (.slice (some ⟨w.heap.size, 0, none⟩) n n)) w') : o.wp P a w K Q := by
  obtain ⟨w', hrun, r1, r2⟩ := run_make_full (P := P) w base t e i z size h1 h2 h3 h4 kl kl n b2 b3 b4
  subst hL
  unfold Oper.wp
  simp [execOp, hop, hl, hrun, Result.andThen]
  exact hK w' r1 r2

theorem bcs_zeros (m : Nat) : bcs (List.replicate m 0) = List.replicate m (.int .u8 0) := by simp [bcs]

set_option maxHeartbeats 4000000 in
set_option maxRecDepth 100000 in
theorem linear_walk (g : Nat) (A : Option Addr) (l0 : List UInt8) (len cap : Nat) (g' : Nat) (A' : Option Addr) (l1 : List UInt8) (len' cap' : Nat) (w : World) (ht : Tab w) (h : Holds w g A (bcs l0)) (hlen : l0.length = len) (hcap : len ≤ cap) (hmx : cap ≤ 9223372036854775807)
    (h' : Holds w g' A' (bcs l1)) (hlen' : l1.length = len') (hcap' : len' ≤ cap') (hmx' : cap' ≤ 9223372036854775807) :
    Calls Tryd.prog 7 #[.slice A len cap, .slice A' len' cap'] w fun e w' => e = .returned (.bool true) ∧ Below w.heap.size w w' := by
  obtain ⟨i0, hi, hz0, hz1, hz2⟩ := info_parts info_byte
  obtain ⟨m, hm2, hml, hml', hmin⟩ := min3 len len' 200 200 rfl
  have hp := ht.1
  have HH := Lib.hid h
  have HL := Lib.hid hlen
  have HH' := Lib.hid h'
  have HL' := Lib.hid hlen'
  have HTB := Lib.hid ht
  clear h hlen ht h' hlen'
  go_enter Tryd.func7, Tryd.ntmps7
  go_wp2_with fail
  refine (shown_any w HTB.out).mono ?_
  rintro e x1 ⟨rfl, hb1⟩
  have H1 := Lib.hid (St.begin HTB.out HH.out hb1 m)
  have H1' := Lib.hid (St.begin HTB.out HH'.out hb1 m)
  have HLL : Hid ((l0.take m).length = m) := by show _ = _; rw [List.length_take, HL.out]; omega
  have HLL' : Hid ((l1.take m).length = m) := by show _ = _; rw [List.length_take, HL'.out]; omega
  generalize l0.take m = la at *
  generalize l1.take m = lb at *
  clear HH HL HH' HL' HTB hb1
  have hmc : m ≤ cap := by omega
  have hmc' : m ≤ cap' := by omega
  go_upto_region 4 with (first
    | (at_make; refine wpList_make_full _ rfl (.tmp 15) (.tmp 15) 23 rfl x1.heap.size 5 i0 (.int .u8 0) 1 Tryd.underlying23 hi hz0 hz1 .i64 .i64 _ _ m rfl rfl rfl rfl (by rw [hz2]; omega) (by unfold maxLen; omega) (Nat.le_refl _) ?_; intro x2 hown2 hgrow2))
  have hrow := row_of_own hown2
  rw [show (Value.int IntKind.u8 0).cells = #[Value.int IntKind.u8 0] from rfl, toList_madeCells_one, Nat.mul_one, ← bcs_zeros] at hrow
  have hb2 : Below x1.heap.size x1 x2 := (Below.refl x1.heap.size x1).grown hgrow2 (Nat.le_refl _) (by simp)
  have H2 := Lib.hid (H1.out.step hb2)
  have H2' := Lib.hid (H1'.out.step hb2)
  obtain ⟨X, hX⟩ : ∃ X, X = x1.heap.size := ⟨_, rfl⟩
  rw [← hX] at hrow ⊢
  have HX : Hid (w.heap.size ≤ X) := by rw [hX]; exact H1.out.le
  have HGa : Hid (0 < (bcs la).length → g < X) := by rw [hX]; exact fun hp => (H1.out.holds hp).1
  have HGb : Hid (0 < (bcs lb).length → g' < X) := by rw [hX]; exact fun hp => (H1'.out.holds hp).1
  have HR2 := Lib.hid hrow
  clear hrow hown2 hgrow2 hb2 hX H1 H1'
  go_wp2
  go_loopw [8] (fun i wr => ∃ j : Nat, j ≤ m ∧ i = .int .i64 j ∧ Hid (Sx w X (xorTo la lb m j) wr) ∧ Hid (Holds wr g A (bcs la)) ∧ Hid (Holds wr g' A' (bcs lb))) (fun i _ => m - (intOf i).toNat)
  case atStart => exact ⟨0, by omega, rfl, ⟨H2.out.tab, by rw [xorTo_zero]; exact HR2.out, H2.out.below, HX.out, hp⟩, H2.out.holds, H2'.out.holds⟩
  case round =>
    obtain ⟨j, hj, rfl, HY, HA, HB⟩ := hrel
    by_cases hlt : j < m
    · have hja : j < la.length := by rw [HLL.out]; exact hlt
      have hjb : j < lb.length := by rw [HLL'.out]; exact hlt
      have hjx : j < (xorTo la lb m j).length := by rw [xorTo_length la lb m j HLL.out HLL'.out hj]; exact hlt
      obtain ⟨_, oa, rfl, hca⟩ := HA.out (by rw [bcs_length]; omega)
      obtain ⟨_, ob, rfl, hcb⟩ := HB.out (by rw [bcs_length]; omega)
      have hca' := hca j _ (bcs_get la j hja)
      have hcb' := hcb j _ (bcs_get lb j hjb)
      have hcx := HY.out.drew.cell j hjx
      have hfx := HY.out.drew.frozen j
      have hxo := xor_byte la[j] lb[j]
      obtain ⟨c1, hc1⟩ : ∃ c1 : Nat, (la[j] ^^^ lb[j]).toNat = c1 := ⟨_, rfl⟩
      rw [hc1] at hxo
      have H3 := Lib.hid (HY.out.drew.set j (la[j] ^^^ lb[j]) (c1 : Int) (by rw [hc1]))
      rw [xorTo_step la lb m j HLL.out HLL'.out hlt] at H3
      have HA3 : Hid (Holds (World.setCell (World.drew _) ⟨X, j, none⟩ (.int .u8 (c1 : Int))) g (some ⟨g, oa, none⟩) (bcs la)) := (HA.out.keep (Ch.refl [] _).drew (by simp)).keep (F := [X]) ((Ch.refl [X] _).setCell (fun _ => by simp) _) (fun hp => by have := HGa.out hp; simp; omega)
      have HB3 : Hid (Holds (World.setCell (World.drew _) ⟨X, j, none⟩ (.int .u8 (c1 : Int))) g' (some ⟨g', ob, none⟩) (bcs lb)) := (HB.out.keep (Ch.refl [] _).drew (by simp)).keep (F := [X]) ((Ch.refl [X] _).setCell (fun _ => by simp) _) (fun hp => by have := HGb.out hp; simp; omega)
      clear hc1
      generalize la[j].toNat = a0 at *
      generalize lb[j].toNat = b0 at *
      have hjl : (j : Int) < (len : Int) := by omega
      have hjl' : (j : Int) < (len' : Int) := by omega
      have hjm : (j : Int) < (m : Int) := by omega
      generalize (xorTo la lb m j)[j].toNat = d0 at *
      clear HY HA HB hca hcb
      go_upto_region 7 with (fail)
      go_still_tail 12, (by kernel_rfl)
      change wpList _ _ _ _ _ wr.drew
      generalize wr.drew = x4 at *
      go_wp2
      go_roundw
      case rel => exact ⟨j + 1, by omega, by go_num, H3, HA3, HB3⟩
      case measure => simp [intOf]; omega
    · have hjj : j = m := by omega
      subst hjj
      rw [xorTo_all la lb j HLL.out HLL'.out] at HY
      have HXL : Hid ((List.zipWith (· ^^^ ·) la lb).length = j) := by show _ = _; simp [HLL.out, HLL'.out]
      have hlin := linear_sum la lb j HLL.out HLL'.out
      generalize List.zipWith (· ^^^ ·) la lb = xs at *
      have hs : (sum xs).toNat = (sum la).toNat ^^^ (sum lb).toNat ^^^ (sum (List.replicate j 0)).toNat := by rw [hlin, BitVec.toNat_xor, BitVec.toNat_xor]
      have ha := (sum la).isLt
      have hb := (sum lb).isLt
      have hc := (sum (List.replicate j 0)).isLt
      have hv1 : ((sum ([xs] : List (List UInt8)).flatten).toNat : Int) = ((sum xs).toNat : Int) := by rw [List.flatten_cons, List.flatten_nil, List.append_nil]
      have hv2 : ((sum ([la] : List (List UInt8)).flatten).toNat : Int) = ((sum la).toNat : Int) := by rw [List.flatten_cons, List.flatten_nil, List.append_nil]
      have hv3 : ((sum ([lb] : List (List UInt8)).flatten).toNat : Int) = ((sum lb).toNat : Int) := by rw [List.flatten_cons, List.flatten_nil, List.append_nil]
      have hv4 : ((sum ([List.replicate j 0] : List (List UInt8)).flatten).toNat : Int) = ((sum (List.replicate j 0)).toNat : Int) := by rw [List.flatten_cons, List.flatten_nil, List.append_nil]
      have V1 := Lib.hid hv1
      have V2 := Lib.hid hv2
      have V3 := Lib.hid hv3
      have V4 := Lib.hid hv4
      clear hlin hv1 hv2 hv3 hv4
      generalize (sum xs).toNat = sx at *
      generalize (sum la).toNat = sa at *
      generalize (sum lb).toNat = sb at *
      generalize (sum (List.replicate j 0)).toNat = sc at *
      have hab : sa ^^^ sb < 65536 := Nat.xor_lt_two_pow (n := 16) ha hb
      have hx1 : bits .xor .u16 (sa : Int) (sb : Int) = ((sa ^^^ sb : Nat) : Int) := u16_xor_nat _ _ ha hb
      have hx2 : bits .xor .u16 ((sa ^^^ sb : Nat) : Int) (sc : Int) = (sx : Int) := by rw [u16_xor_nat _ _ hab hc, hs]
      generalize sa ^^^ sb = sab at *
      clear hs hab ha hb hc
      go_upto_region 8 with (fail)
      refine region_facts [false, false, false, false, true, false, false, false, false, false, false, false, false, false, false, false, false, false, false, false, false, false, false, false, false, false, false, false, false, false, false, false, false, false, true, true, true, true, true, true, true, true, true, true, true, true, true, true, true, true, true, true, true, true, true, true, true]
        (fun i x y => match i with
          | 0 => x = .bool true
          | 1 => x = .bool true
          | 2 => x = .slice (some ⟨X, 0, none⟩) j j
          | 3 => ∃ b, x = .slice (some ⟨b, 0, none⟩) 1 1 ∧ PartsAt y (some ⟨b, 0, none⟩) [xs]
          | 4 => x = .int .u16 (sx : Int)
          | 5 => x = .slice A len cap
          | 6 => x = .int .i64 (j : Int)
          | 7 => x = .slice A j cap
          | 8 => ∃ b, x = .slice (some ⟨b, 0, none⟩) 1 1 ∧ PartsAt y (some ⟨b, 0, none⟩) [la]
          | 9 => x = .int .u16 (sa : Int)
          | 10 => x = .slice A' len' cap'
          | 11 => x = .int .i64 (j : Int)
          | 12 => x = .slice A' j cap'
          | 13 => ∃ b, x = .slice (some ⟨b, 0, none⟩) 1 1 ∧ PartsAt y (some ⟨b, 0, none⟩) [lb]
          | 14 => x = .int .u16 (sb : Int)
          | 15 => x = .int .u16 (sab : Int)
          | 16 => x = .int .i64 (j : Int)
          | 17 => ∃ z, x = .slice (some ⟨z, 0, none⟩) j j ∧ Row y z (List.replicate j 0)
          | 18 => ∃ b, x = .slice (some ⟨b, 0, none⟩) 1 1 ∧ PartsAt y (some ⟨b, 0, none⟩) [List.replicate j 0]
          | 19 => x = .int .u16 (sc : Int)
          | 20 => x = .int .u16 (sx : Int)
          | 21 => x = .bool true
          | 22 => x = .bool true
          | 23 => x = .bool true
          | _ => True)
        (fun y => St w.heap.size w g A la y ∧ Holds y g' A' (bcs lb) ∧ Row y X xs) (fun x y => Below x.heap.size x y)
        (by kernel_rfl) (by kernel_rfl) ?mono (⟨⟨HY.out.drew.tab, (HA.out.keep (Ch.refl [] _).drew (by simp)), HY.out.drew.below, HY.out.drew.below.size⟩, (HB.out.keep (Ch.refl [] _).drew (by simp)), HY.out.drew.row⟩) ?steps ?fin
      case mono =>
        intro i v y y' h hb
        match i, h with
        | 0, h => exact h
        | 1, h => exact h
        | 2, h => exact h
        | 3, h => obtain ⟨b, e, hp⟩ := h; exact ⟨b, e, hp.keep hb⟩
        | 4, h => exact h
        | 5, h => exact h
        | 6, h => exact h
        | 7, h => exact h
        | 8, h => obtain ⟨b, e, hp⟩ := h; exact ⟨b, e, hp.keep hb⟩
        | 9, h => exact h
        | 10, h => exact h
        | 11, h => exact h
        | 12, h => exact h
        | 13, h => obtain ⟨b, e, hp⟩ := h; exact ⟨b, e, hp.keep hb⟩
        | 14, h => exact h
        | 15, h => exact h
        | 16, h => exact h
        | 17, h => obtain ⟨z, e, hr⟩ := h; exact ⟨z, e, hr.keep (Ch.of_below hb) (by simp)⟩
        | 18, h => obtain ⟨b, e, hp⟩ := h; exact ⟨b, e, hp.keep hb⟩
        | 19, h => exact h
        | 20, h => exact h
        | 21, h => exact h
        | 22, h => exact h
        | 23, h => exact h
        | n + 24, h => trivial
      case steps =>
        simp only [Steps, Nat.reduceAdd, Nat.zero_add]
        refine ⟨?_, ?_, ?_, ?_, ?_, ?_, ?_, ?_, ?_, ?_, ?_, ?_, ?_, ?_, ?_, ?_, ?_, ?_, ?_, ?_, ?_, ?_, ?_, ?_, trivial⟩
        · intro v y hS hd K hK
          clear hd
          simp only [fr, frL, Nat.reduceAdd, Nat.zero_add, Act.put, List.setIfInBounds_toArray, List.set_cons_zero, List.set_cons_succ] at hK ⊢
          go_simp
          exact hK.out _ _ rfl (Below.refl _ _) hS
        · intro v y hS hd K hK
          have h0 : v 34 = .bool true := hd 0 (by decide)
          clear hd
          simp only [fr, frL, Nat.reduceAdd, Nat.zero_add, Act.put, List.setIfInBounds_toArray, List.set_cons_zero, List.set_cons_succ, h0] at hK ⊢
          go_simp
          exact hK.out _ _ rfl (Below.refl _ _) hS
        · intro v y hS hd K hK
          have h1 : v 35 = .bool true := hd 1 (by decide)
          clear hd
          simp only [fr, frL, Nat.reduceAdd, Nat.zero_add, Act.put, List.setIfInBounds_toArray, List.set_cons_zero, List.set_cons_succ, h1] at hK ⊢
          go_simp
          exact hK.out _ _ rfl (Below.refl _ _) hS
        · intro v y hS hd K hK
          have h1 : v 35 = .bool true := hd 1 (by decide)
          have h2 : v 36 = .slice (some ⟨X, 0, none⟩) j j := hd 2 (by decide)
          clear hd
          simp only [fr, frL, Nat.reduceAdd, Nat.zero_add, Act.put, List.setIfInBounds_toArray, List.set_cons_zero, List.set_cons_succ, h1, h2] at hK ⊢
          go_simp
          refine hK.out _ _ ⟨_, rfl, one_part hS.2.2.holds HXL.out⟩ (((Ch.refl [] y).alloc _).below (by simp)) ⟨hS.1.alloc _, hS.2.1.keep ((Ch.refl [] _).alloc _) (by simp), hS.2.2.keep ((Ch.refl [] _).alloc _) (by simp)⟩
        · intro v y hS hd K hK
          have h1 : v 35 = .bool true := hd 1 (by decide)
          obtain ⟨b3, h3, p3⟩ : ∃ b, v 37 = .slice (some ⟨b, 0, none⟩) 1 1 ∧ PartsAt y (some ⟨b, 0, none⟩) [xs] := hd 3 (by decide)
          clear hd
          simp only [fr, frL, Nat.reduceAdd, Nat.zero_add, Act.put, List.setIfInBounds_toArray, List.set_cons_zero, List.set_cons_succ, h1, h3] at hK ⊢
          go_simp
          refine (table_on [xs] hS.1.tab p3 rfl (by simp) (by simp [HXL.out]; omega) _ V1.out).mono ?_
          rintro e y1 ⟨rfl, hb⟩
          exact hK.out _ _ rfl hb ⟨hS.1.step hb, hS.2.1.keep (Ch.of_below hb) (by simp), hS.2.2.keep (Ch.of_below hb) (by simp)⟩
        · intro v y hS hd K hK
          have h1 : v 35 = .bool true := hd 1 (by decide)
          clear hd
          simp only [fr, frL, Nat.reduceAdd, Nat.zero_add, Act.put, List.setIfInBounds_toArray, List.set_cons_zero, List.set_cons_succ, h1] at hK ⊢
          go_simp
          exact hK.out _ _ rfl (Below.refl _ _) hS
        · intro v y hS hd K hK
          have h1 : v 35 = .bool true := hd 1 (by decide)
          clear hd
          simp only [fr, frL, Nat.reduceAdd, Nat.zero_add, Act.put, List.setIfInBounds_toArray, List.set_cons_zero, List.set_cons_succ, h1] at hK ⊢
          go_simp
          exact hK.out _ _ rfl (Below.refl _ _) hS
        · intro v y hS hd K hK
          have h1 : v 35 = .bool true := hd 1 (by decide)
          have h5 : v 39 = .slice A len cap := hd 5 (by decide)
          have h6 : v 40 = .int .i64 (j : Int) := hd 6 (by decide)
          clear hd
          simp only [fr, frL, Nat.reduceAdd, Nat.zero_add, Act.put, List.setIfInBounds_toArray, List.set_cons_zero, List.set_cons_succ, h1, h5, h6] at hK ⊢
          go_simp
          exact hK.out _ _ rfl (Below.refl _ _) hS
        · intro v y hS hd K hK
          have h1 : v 35 = .bool true := hd 1 (by decide)
          have h7 : v 41 = .slice A j cap := hd 7 (by decide)
          clear hd
          simp only [fr, frL, Nat.reduceAdd, Nat.zero_add, Act.put, List.setIfInBounds_toArray, List.set_cons_zero, List.set_cons_succ, h1, h7] at hK ⊢
          go_simp
          refine hK.out _ _ ⟨_, rfl, one_part hS.1.holds HLL.out⟩ (((Ch.refl [] y).alloc _).below (by simp)) ⟨hS.1.alloc _, hS.2.1.keep ((Ch.refl [] _).alloc _) (by simp), hS.2.2.keep ((Ch.refl [] _).alloc _) (by simp)⟩
        · intro v y hS hd K hK
          have h1 : v 35 = .bool true := hd 1 (by decide)
          obtain ⟨b8, h8, p8⟩ : ∃ b, v 42 = .slice (some ⟨b, 0, none⟩) 1 1 ∧ PartsAt y (some ⟨b, 0, none⟩) [la] := hd 8 (by decide)
          clear hd
          simp only [fr, frL, Nat.reduceAdd, Nat.zero_add, Act.put, List.setIfInBounds_toArray, List.set_cons_zero, List.set_cons_succ, h1, h8] at hK ⊢
          go_simp
          refine (table_on [la] hS.1.tab p8 rfl (by simp) (by simp [HLL.out]; omega) _ V2.out).mono ?_
          rintro e y1 ⟨rfl, hb⟩
          exact hK.out _ _ rfl hb ⟨hS.1.step hb, hS.2.1.keep (Ch.of_below hb) (by simp), hS.2.2.keep (Ch.of_below hb) (by simp)⟩
        · intro v y hS hd K hK
          have h1 : v 35 = .bool true := hd 1 (by decide)
          clear hd
          simp only [fr, frL, Nat.reduceAdd, Nat.zero_add, Act.put, List.setIfInBounds_toArray, List.set_cons_zero, List.set_cons_succ, h1] at hK ⊢
          go_simp
          exact hK.out _ _ rfl (Below.refl _ _) hS
        · intro v y hS hd K hK
          have h1 : v 35 = .bool true := hd 1 (by decide)
          clear hd
          simp only [fr, frL, Nat.reduceAdd, Nat.zero_add, Act.put, List.setIfInBounds_toArray, List.set_cons_zero, List.set_cons_succ, h1] at hK ⊢
          go_simp
          exact hK.out _ _ rfl (Below.refl _ _) hS
        · intro v y hS hd K hK
          have h1 : v 35 = .bool true := hd 1 (by decide)
          have h10 : v 44 = .slice A' len' cap' := hd 10 (by decide)
          have h11 : v 45 = .int .i64 (j : Int) := hd 11 (by decide)
          clear hd
          simp only [fr, frL, Nat.reduceAdd, Nat.zero_add, Act.put, List.setIfInBounds_toArray, List.set_cons_zero, List.set_cons_succ, h1, h10, h11] at hK ⊢
          go_simp
          exact hK.out _ _ rfl (Below.refl _ _) hS
        · intro v y hS hd K hK
          have h1 : v 35 = .bool true := hd 1 (by decide)
          have h12 : v 46 = .slice A' j cap' := hd 12 (by decide)
          clear hd
          simp only [fr, frL, Nat.reduceAdd, Nat.zero_add, Act.put, List.setIfInBounds_toArray, List.set_cons_zero, List.set_cons_succ, h1, h12] at hK ⊢
          go_simp
          refine hK.out _ _ ⟨_, rfl, one_part hS.2.1 HLL'.out⟩ (((Ch.refl [] y).alloc _).below (by simp)) ⟨hS.1.alloc _, hS.2.1.keep ((Ch.refl [] _).alloc _) (by simp), hS.2.2.keep ((Ch.refl [] _).alloc _) (by simp)⟩
        · intro v y hS hd K hK
          have h1 : v 35 = .bool true := hd 1 (by decide)
          obtain ⟨b13, h13, p13⟩ : ∃ b, v 47 = .slice (some ⟨b, 0, none⟩) 1 1 ∧ PartsAt y (some ⟨b, 0, none⟩) [lb] := hd 13 (by decide)
          clear hd
          simp only [fr, frL, Nat.reduceAdd, Nat.zero_add, Act.put, List.setIfInBounds_toArray, List.set_cons_zero, List.set_cons_succ, h1, h13] at hK ⊢
          go_simp
          refine (table_on [lb] hS.1.tab p13 rfl (by simp) (by simp [HLL'.out]; omega) _ V3.out).mono ?_
          rintro e y1 ⟨rfl, hb⟩
          exact hK.out _ _ rfl hb ⟨hS.1.step hb, hS.2.1.keep (Ch.of_below hb) (by simp), hS.2.2.keep (Ch.of_below hb) (by simp)⟩
        · intro v y hS hd K hK
          have h1 : v 35 = .bool true := hd 1 (by decide)
          have h9 : v 43 = .int .u16 (sa : Int) := hd 9 (by decide)
          have h14 : v 48 = .int .u16 (sb : Int) := hd 14 (by decide)
          clear hd
          simp only [fr, frL, Nat.reduceAdd, Nat.zero_add, Act.put, List.setIfInBounds_toArray, List.set_cons_zero, List.set_cons_succ, h1, h9, h14] at hK ⊢
          go_simp
          exact hK.out _ _ rfl (Below.refl _ _) hS
        · intro v y hS hd K hK
          have h1 : v 35 = .bool true := hd 1 (by decide)
          clear hd
          simp only [fr, frL, Nat.reduceAdd, Nat.zero_add, Act.put, List.setIfInBounds_toArray, List.set_cons_zero, List.set_cons_succ, h1] at hK ⊢
          go_simp
          exact hK.out _ _ rfl (Below.refl _ _) hS
        · intro v y hS hd K hK
          have h1 : v 35 = .bool true := hd 1 (by decide)
          have h16 : v 50 = .int .i64 (j : Int) := hd 16 (by decide)
          clear hd
          simp only [fr, frL, Nat.reduceAdd, Nat.zero_add, Act.put, List.setIfInBounds_toArray, List.set_cons_zero, List.set_cons_succ, h1, h16] at hK ⊢
          rw [if_pos (by go_simp)]
          refine wp_make_full (.tmp 50) 23 rfl y.heap.size 5 i0 (.int .u8 0) 1 Tryd.underlying23 hi hz0 hz1 .i64 _ j (by go_simp) rfl (by rw [hz2]; omega) (by unfold maxLen; omega) (Nat.le_refl _) ?_
          intro y1 hown hgrow
          have hrow := row_of_own hown
          rw [show (Value.int IntKind.u8 0).cells = #[Value.int IntKind.u8 0] from rfl, toList_madeCells_one, Nat.mul_one, ← bcs_zeros] at hrow
          have hb : Below y.heap.size y y1 := (Below.refl y.heap.size y).grown hgrow (Nat.le_refl _) (by simp)
          exact hK.out _ _ ⟨_, rfl, hrow⟩ hb ⟨hS.1.step hb, hS.2.1.keep (Ch.of_below hb) (by simp), hS.2.2.keep (Ch.of_below hb) (by simp)⟩
        · intro v y hS hd K hK
          have h1 : v 35 = .bool true := hd 1 (by decide)
          obtain ⟨b17, h17, p17⟩ : ∃ z, v 51 = .slice (some ⟨z, 0, none⟩) j j ∧ Row y z (List.replicate j 0) := hd 17 (by decide)
          clear hd
          simp only [fr, frL, Nat.reduceAdd, Nat.zero_add, Act.put, List.setIfInBounds_toArray, List.set_cons_zero, List.set_cons_succ, h1, h17] at hK ⊢
          go_simp
          refine hK.out _ _ ⟨_, rfl, one_part p17.holds (by simp)⟩ (((Ch.refl [] y).alloc _).below (by simp)) ⟨hS.1.alloc _, hS.2.1.keep ((Ch.refl [] _).alloc _) (by simp), hS.2.2.keep ((Ch.refl [] _).alloc _) (by simp)⟩
        · intro v y hS hd K hK
          have h1 : v 35 = .bool true := hd 1 (by decide)
          obtain ⟨b18, h18, p18⟩ : ∃ b, v 52 = .slice (some ⟨b, 0, none⟩) 1 1 ∧ PartsAt y (some ⟨b, 0, none⟩) [List.replicate j 0] := hd 18 (by decide)
          clear hd
          simp only [fr, frL, Nat.reduceAdd, Nat.zero_add, Act.put, List.setIfInBounds_toArray, List.set_cons_zero, List.set_cons_succ, h1, h18] at hK ⊢
          go_simp
          refine (bits_on [List.replicate j 0] p18 rfl (by simp) (by simp; omega) _ V4.out).mono ?_
          rintro e y1 ⟨rfl, hb⟩
          exact hK.out _ _ rfl hb ⟨hS.1.step hb, hS.2.1.keep (Ch.of_below hb) (by simp), hS.2.2.keep (Ch.of_below hb) (by simp)⟩
        · intro v y hS hd K hK
          have h1 : v 35 = .bool true := hd 1 (by decide)
          have h15 : v 49 = .int .u16 (sab : Int) := hd 15 (by decide)
          have h19 : v 53 = .int .u16 (sc : Int) := hd 19 (by decide)
          clear hd
          simp only [fr, frL, Nat.reduceAdd, Nat.zero_add, Act.put, List.setIfInBounds_toArray, List.set_cons_zero, List.set_cons_succ, h1, h15, h19] at hK ⊢
          go_simp
          exact hK.out _ _ rfl (Below.refl _ _) hS
        · intro v y hS hd K hK
          have h1 : v 35 = .bool true := hd 1 (by decide)
          have h4 : v 38 = .int .u16 (sx : Int) := hd 4 (by decide)
          have h20 : v 54 = .int .u16 (sx : Int) := hd 20 (by decide)
          clear hd
          simp only [fr, frL, Nat.reduceAdd, Nat.zero_add, Act.put, List.setIfInBounds_toArray, List.set_cons_zero, List.set_cons_succ, h1, h4, h20] at hK ⊢
          go_simp
          exact hK.out _ _ rfl (Below.refl _ _) hS
        · intro v y hS hd K hK
          have h1 : v 35 = .bool true := hd 1 (by decide)
          have h21 : v 55 = .bool true := hd 21 (by decide)
          clear hd
          simp only [fr, frL, Nat.reduceAdd, Nat.zero_add, Act.put, List.setIfInBounds_toArray, List.set_cons_zero, List.set_cons_succ, h1, h21] at hK ⊢
          go_simp
          exact hK.out _ _ rfl (Below.refl _ _) hS
        · intro v y hS hd K hK
          have h22 : v 56 = .bool true := hd 22 (by decide)
          clear hd
          simp only [fr, frL, Nat.reduceAdd, Nat.zero_add, Act.put, List.setIfInBounds_toArray, List.set_cons_zero, List.set_cons_succ, h22] at hK ⊢
          go_simp
          exact hK.out _ _ rfl (Below.refl _ _) hS
      case fin =>
        intro v y hS hd
        have h0 : v 34 = .bool true := hd 0 (by decide)
        have h1 : v 35 = .bool true := hd 1 (by decide)
        have h2 : v 36 = .slice (some ⟨X, 0, none⟩) j j := hd 2 (by decide)
        obtain ⟨b3, h3, p3⟩ : ∃ b, v 37 = .slice (some ⟨b, 0, none⟩) 1 1 ∧ PartsAt y (some ⟨b, 0, none⟩) [xs] := hd 3 (by decide)
        have h4 : v 38 = .int .u16 (sx : Int) := hd 4 (by decide)
        have h5 : v 39 = .slice A len cap := hd 5 (by decide)
        have h6 : v 40 = .int .i64 (j : Int) := hd 6 (by decide)
        have h7 : v 41 = .slice A j cap := hd 7 (by decide)
        obtain ⟨b8, h8, p8⟩ : ∃ b, v 42 = .slice (some ⟨b, 0, none⟩) 1 1 ∧ PartsAt y (some ⟨b, 0, none⟩) [la] := hd 8 (by decide)
        have h9 : v 43 = .int .u16 (sa : Int) := hd 9 (by decide)
        have h10 : v 44 = .slice A' len' cap' := hd 10 (by decide)
        have h11 : v 45 = .int .i64 (j : Int) := hd 11 (by decide)
        have h12 : v 46 = .slice A' j cap' := hd 12 (by decide)
        obtain ⟨b13, h13, p13⟩ : ∃ b, v 47 = .slice (some ⟨b, 0, none⟩) 1 1 ∧ PartsAt y (some ⟨b, 0, none⟩) [lb] := hd 13 (by decide)
        have h14 : v 48 = .int .u16 (sb : Int) := hd 14 (by decide)
        have h15 : v 49 = .int .u16 (sab : Int) := hd 15 (by decide)
        have h16 : v 50 = .int .i64 (j : Int) := hd 16 (by decide)
        obtain ⟨b17, h17, p17⟩ : ∃ z, v 51 = .slice (some ⟨z, 0, none⟩) j j ∧ Row y z (List.replicate j 0) := hd 17 (by decide)
        obtain ⟨b18, h18, p18⟩ : ∃ b, v 52 = .slice (some ⟨b, 0, none⟩) 1 1 ∧ PartsAt y (some ⟨b, 0, none⟩) [List.replicate j 0] := hd 18 (by decide)
        have h19 : v 53 = .int .u16 (sc : Int) := hd 19 (by decide)
        have h20 : v 54 = .int .u16 (sx : Int) := hd 20 (by decide)
        have h21 : v 55 = .bool true := hd 21 (by decide)
        have h22 : v 56 = .bool true := hd 22 (by decide)
        have h23 : v 4 = .bool true := hd 23 (by decide)
        clear hd
        simp only [fr, frL, Nat.reduceAdd, Nat.zero_add, h0, h1, h2, h3, h4, h5, h6, h7, h8, h9, h10, h11, h12, h13, h14, h15, h16, h17, h18, h19, h20, h21, h22, h23]
        clear h0 h1 h2 h3 h4 h5 h6 h7 h8 h9 h10 h11 h12 h13 h14 h15 h16 h17 h18 h19 h20 h21 h22 h23
        go_wp2
        go_ret
        exact ⟨rfl, hS.1.below⟩

end Go.Proofs.YtcboklkpfjefmaaDoor
