/-
  crc.shift, crc.takeHalf, crc.Bits, crc.Table: one place to the left, half a byte at once, the sum of parts by either way: what they answer; nothing is turned.
-/
import Derived.Test.YtalolefggihloaaDoorFJoin
import Derived.Test.YtalolefggihloaaDoorFCrcNats
import Derived.Test.YtalolefggihloaaDoorProg
import Derived.Laws.BitsAllLaws
namespace Go.Proofs.YtalolefggihloaaDoor
set_option linter.unusedVariables false
set_option linter.unusedSimpArgs false
open Go.RowKit

/-- The table lies where the program's text lays it. -/
def Tab (w : World) : Prop := 0 < w.heap.size ∧ ∀ i : Nat, i < 16 → w.cell? ⟨0, i, none⟩ = some (.int .u16 ((tab[i]?).getD 0 : Nat))
theorem Tab.keep {w w' : World} {F : List Nat} (h : Tab w) (hc : Ch F w w') (hF : 0 ∉ F) : Tab w' :=
  ⟨Nat.lt_of_lt_of_le h.1 hc.size, fun i hi => (hc.cell (p := ⟨0, i, none⟩) h.1 hF).trans (h.2 i hi)⟩

theorem half_nat (s : BitVec 16) (h : Nat) (hh : h < 16) : (Tn 4 (s ^^^ (BitVec.ofNat 16 h <<< 12))).toNat = (s.toNat * 16 % 65536) ^^^ (tab[s.toNat / 4096 ^^^ h]?).getD 0 := by
  have hv : (s ^^^ (BitVec.ofNat 16 h <<< 12)).toNat = s.toNat ^^^ h * 4096 := by
    rw [BitVec.toNat_xor, BitVec.toNat_shiftLeft, BitVec.toNat_ofNat, Nat.shiftLeft_eq]
    congr 1
    omega
  rw [nib_nat, hv]
  congr 1
  · have e1 : (s.toNat ^^^ h * 4096) * 16 = s.toNat * 16 ^^^ h * 65536 := by
      have := Nat.shiftLeft_xor_distrib (i := 4) (a := s.toNat) (b := h * 4096)
      simp only [Nat.shiftLeft_eq] at this
      rw [show (2 : Nat) ^ 4 = 16 from rfl] at this
      rw [this]
      congr 1
      omega
    rw [e1, show (65536 : Nat) = 2 ^ 16 from rfl, Nat.xor_mod_two_pow]
    simp
  · have e2 : (s.toNat ^^^ h * 4096) / 4096 = s.toNat / 4096 ^^^ h := by
      have := Nat.shiftRight_xor_distrib (i := 12) (a := s.toNat) (b := h * 4096)
      simp only [Nat.shiftRight_eq_div_pow] at this
      rw [show (2 : Nat) ^ 12 = 4096 from rfl] at this
      rw [this]
      congr 1
      omega
    rw [e2]

theorem tab_lt : ∀ i : Fin 16, (tab[i.val]?).getD 0 < 65536 := by decide

theorem half_any (s : BitVec 16) (h : Nat) (hh : h < 16) (w : World) (ht : Tab w) : Calls Tryd.prog 45 #[.int .u16 (s.toNat : Int), .int .u8 (h : Int)] w fun e w' => e = .returned (.int .u16 ((Tn 4 (s ^^^ (BitVec.ofNat 16 h <<< 12))).toNat : Int)) ∧ w' = w := by
  have hT := half_nat s h hh
  have hs := s.isLt
  generalize (Tn 4 (s ^^^ (BitVec.ofNat 16 h <<< 12))).toNat = t at *
  generalize s.toNat = n at *
  have hk : n / 4096 ^^^ h < 16 := Nat.xor_lt_two_pow (n := 4) (by omega) hh
  have hx : bits .xor .u16 ((n : Int) / 4096) (h : Int) = ((n / 4096 ^^^ h : Nat) : Int) := by
    have := u16_xor_nat (n / 4096) h (by omega) (by omega)
    rw [← this]
    rfl
  have hc := ht.2 _ hk
  have hx2 := tab_lt ⟨_, hk⟩
  simp only at hx2
  generalize n / 4096 ^^^ h = k at *
  generalize (tab[k]?).getD 0 = x at *
  have hw : IntKind.u16.wrap ((n : Int) * 16) = ((n * 16 % 65536 : Nat) : Int) := by rw [IntKind.wrap_u16]; omega
  have hy : bits .xor .u16 ((n * 16 % 65536 : Nat) : Int) (x : Int) = ((n * 16 % 65536 ^^^ x : Nat) : Int) := u16_xor_nat _ x (by omega) (by omega)
  have HT := Lib.hid hT
  have HY := Lib.hid hy
  have HW := Lib.hid hw
  clear hT hy ht hw
  go_enter Tryd.func45, Tryd.ntmps45
  go_wp2
  go_ret
  refine ⟨?_, rfl⟩
  show Ending.returned (.int .u16 (bits .xor .u16 (IntKind.u16.wrap ((n : Int) * 16)) (x : Int))) = _
  rw [HW.out, HY.out, HT.out]

/-- The sum, as it begins. -/
abbrev sum (l : List UInt8) : BitVec 16 := sumF 0xFFFF#16 l

theorem sumF_snoc (s : BitVec 16) (l : List UInt8) (b : UInt8) : sumF s (l ++ [b]) = byteStep (sumF s l) b := by simp [sumF]
theorem T_Tn (n : Nat) (s : BitVec 16) : T (Tn n s) = Tn (n + 1) s := by rw [Tn_add n 1]; rfl
theorem take_snoc (l : List UInt8) (j : Nat) (h : j < l.length) : l.take (j + 1) = l.take j ++ [l[j]] := by
  rw [List.take_add_one, List.getElem?_eq_getElem h]; rfl

theorem xor_up (s : BitVec 16) (b : UInt8) : bits .xor .u16 (s.toNat : Int) ((b.toNat : Int) * 256) = ((s ^^^ up b).toNat : Int) := by
  have hb := b.toNat_lt
  have hs := s.isLt
  rw [BitVec.toNat_xor, up_nat, ← u16_xor_nat _ _ (by omega) (by omega)]
  rfl

/-- A byte's two halves. -/
theorem byte_halves (s : BitVec 16) (b : UInt8) : byteStep s b = Tn 4 (Tn 4 (s ^^^ (BitVec.ofNat 16 (b.toNat / 16) <<< 12)) ^^^ (BitVec.ofNat 16 (b.toNat % 16) <<< 12)) := by
  have h1 : (b.toBitVec >>> 4).setWidth 16 = BitVec.ofNat 16 (b.toNat / 16) := by
    apply BitVec.eq_of_toNat_eq
    have := b.toNat_lt
    simp [BitVec.toNat_ushiftRight, Nat.shiftRight_eq_div_pow]
    omega
  have h2 : (b.toBitVec &&& 15#8).setWidth 16 = BitVec.ofNat 16 (b.toNat % 16) := by
    apply BitVec.eq_of_toNat_eq
    have := b.toNat_lt
    have e : b.toNat &&& 15 = b.toNat % 16 := Nat.and_two_pow_sub_one_eq_mod _ 4
    simp [e]
    omega
  rw [byte_nibs, h1, h2]

set_option maxHeartbeats 800000 in
theorem table_any (P : Option Addr) (c : Nat) (ps : List (List UInt8)) (w : World) (ht : Tab w) (hp : PartsAt w P ps) (hn : ps.length ≤ 1099511627776) (hL : ∀ l ∈ ps, l.length ≤ 1099511627776) :
    Calls Tryd.prog 36 #[.slice P ps.length c] w fun e w' => e = .returned (.int .u16 ((sum ps.flatten).toNat : Int)) ∧ w' = w := by
  have HTB := Lib.hid ht
  clear ht
  go_enter Tryd.func36, Tryd.ntmps36
  go_wp2
  go_loop [3, 10] (fun s i => ∃ k : Nat, k ≤ ps.length ∧ i = .int .i64 k ∧ s = .int .u16 ((sum (flat ps k)).toNat : Int)) (fun _ i => ps.length - (intOf i).toNat)
  case atStart => exact ⟨0, Nat.zero_le _, rfl, rfl⟩
  case round =>
    obtain ⟨k, hk, rfl, rfl⟩ := hrel
    by_cases hlt : k < ps.length
    · obtain ⟨b, o, g, A, c', rfl, hcell, hh⟩ := hp k ps[k] (List.getElem?_eq_getElem hlt)
      have hlk : ps[k].length ≤ 1099511627776 := hL _ (List.getElem_mem hlt)
      have HF := Lib.hid (flat_succ ps k hlt)
      generalize ps[k] = l at *
      have HF2 : Hid (sum (flat ps (k + 1)) = sumF (sum (flat ps k)) l) := by
        show _ = _
        rw [HF.out, sum, sumF_append]
      generalize sum (flat ps k) = s0 at *
      have HH := Lib.hid hh
      clear hp hL hh HF
      go_wp2
      go_loop [3, 16] (fun s i => ∃ j : Nat, j ≤ l.length ∧ i = .int .i64 j ∧ s = .int .u16 ((sumF s0 (l.take j)).toNat : Int)) (fun _ i => l.length - (intOf i).toNat)
      case atStart => exact ⟨0, Nat.zero_le _, rfl, rfl⟩
      case round =>
        obtain ⟨j, hj, rfl, rfl⟩ := hrel
        by_cases hjl : j < l.length
        · obtain ⟨_, o', rfl, hc⟩ := HH.out (by rw [bcs_length]; omega)
          have hcj := hc j _ (bcs_get l j hjl)
          have HT : Hid (sumF s0 (l.take (j + 1)) = byteStep (sumF s0 (l.take j)) l[j]) := by
            show _ = _
            rw [take_snoc l j hjl, sumF_snoc]
          generalize l[j] = b at *
          generalize sumF s0 (l.take j) = s1 at *
          have hb : b.toNat < 256 := b.toNat_lt
          rw [byte_halves] at HT
          generalize b.toNat = bn at *
          have e1 : (bn : Int) / 16 = ((bn / 16 : Nat) : Int) := by omega
          have e2 : bits .and .u8 (bn : Int) 15 = ((bn % 16 : Nat) : Int) := by
            have := u8_and_nat bn 15 (by omega) (by omega)
            rw [nat_mask4] at this
            exact this
          have h1 : bn / 16 < 16 := by omega
          have h2 : bn % 16 < 16 := by omega
          generalize bn / 16 = u at *
          generalize bn % 16 = v at *
          clear hc HH
          go_wp2_with fail
          refine (half_any s1 u h1 _ HTB.out).mono ?_
          rintro e w1 ⟨rfl, rfl⟩
          go_wp2_with fail
          refine (half_any _ v h2 _ HTB.out).mono ?_
          rintro e w1 ⟨rfl, rfl⟩
          go_wp2
          go_round
          case rel => exact ⟨j + 1, by omega, by go_num, by rw [HT.out]⟩
          case measure => simp [intOf]; omega
        · have hjj : j = l.length := by omega
          subst hjj
          go_wp2
          go_round
          case rel => exact ⟨k + 1, by omega, by go_num, by rw [HF2.out, List.take_length]⟩
          case measure => simp [intOf]; omega
    · have hkk : k = ps.length := by omega
      subst hkk
      rw [flat_all]
      go_wp2
      go_ret
      exact ⟨rfl, rfl⟩

end Go.Proofs.YtalolefggihloaaDoor
