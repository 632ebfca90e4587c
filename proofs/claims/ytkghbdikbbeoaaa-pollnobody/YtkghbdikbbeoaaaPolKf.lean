/-
  The program's poll: what Addrs answers.
-/
import Derived.Test.YtkghbdikbbeoaaaPolKa
import Derived.Test.YtkghbdikbbeoaaaFClone
namespace Go.Proofs.Ytkghbdikbbeoaaa
set_option linter.unusedVariables false
set_option linter.unusedSimpArgs false
open Go.RowKit

theorem kbytes_succ {p : Po} {i : Nat} (hi : i < p.l.length) : p.bytes.take (i + 1) = p.bytes.take i ++ [UInt8.ofNat (pe p.l i).a] := by
  have hb : i < p.bytes.length := by rw [bytes_len]; exact hi
  rw [List.take_add_one, List.getElem?_eq_getElem hb]
  simp [Po.bytes, Po.row, pe_eq hi]
set_option maxRecDepth 20000 in
set_option maxHeartbeats 3200000 in
theorem kaddrs_on {w : World} {L U D g c : Nat} {q : Po} {A : Option Addr} (h : Ko w L U D q A g c) (hok : q.Ok) : Calls Try.prog 21 #[.pointer (some ⟨D, 0, none⟩)] w fun e y =>
    ∃ A c, e = .returned (.slice A q.l.length c) ∧ y.ownsRow w.heap.size 5 1 (.slice A q.l.length c) q.l.length (bcs q.bytes) ∧ Below w.heap.size w y := by
  have H0 := Lib.hid h
  have HOK := Lib.hid hok
  have c0 := h.c0
  obtain ⟨n, hn⟩ : ∃ n, q.l.length = n := ⟨_, rfl⟩
  rw [hn] at c0
  have HN := Lib.hid hn
  have HN40 : Hid (n ≤ 40) := Lib.hid (by have := hok.len; omega)
  rw [hn]
  clear h hok hn
  obtain ⟨i0, hi0, hz0, hz1, hz2⟩ := info_parts info_byte
  go_enter Try.func21, Try.ntmps21
  go_wp2
  go_loopw [3, 11] (fun v j wr => ∃ (i : Nat) (A5 : Option Addr) (c5 : Nat), i ≤ n ∧ v = .slice A5 i c5 ∧ j = .int .i64 i ∧ Hid (wr.ownsRow w.heap.size 5 1 (.slice A5 i c5) i (bcs (q.bytes.take i))) ∧ Hid (Below w.heap.size w wr)) (fun _ j _ => n - (intOf j).toNat)
  case atStart => exact ⟨0, none, 0, Nat.zero_le _, rfl, rfl, Lib.hid (World.ownsRow_nil _ _ _ _), Lib.hid (Below.refl _ _)⟩
  case round =>
    obtain ⟨i, A5, c5, hi, rfl, rfl, HO, HB⟩ := hrel
    rename World => x
    by_cases hlt : i < n
    · have hil : i < q.l.length := by rw [HN.out]; exact hlt
      have hlt1 : (i : Int) < (n : Int) := by omega
      have hko := H0.out.keep (w' := x) (fun k k1 k2 => HB.out.block k (by have := H0.out.us; omega)) (Nat.le_trans H0.out.us HB.out.size)
      obtain ⟨rfl, _, _, hrow⟩ := hko.row (by omega)
      have e0 := (hrow.cell hil).1
      have e1 := (hrow.cell hil).2.1
      have e2 := (hrow.cell hil).2.2
      have hcap : n ≤ c := by have := hrow.cap; rw [HN.out] at this; exact this
      have hn40 := HN40.out
      clear hko hrow
      go_upto_region 5 with fail
      have HA : Hid ((pe q.l i).a ≤ 255) := Lib.hid (by have := HOK.out.hi _ (List.mem_map_of_mem (f := Pe.a) (pe_mem hil)); omega)
      have HBS := Lib.hid (kbytes_succ (p := q) hil)
      clear e0 e1 e2 hil
      generalize (pe q.l i).a = a at *
      generalize (pe q.l i).d = d at *
      generalize (pe q.l i).t = t at *
      have hb6 := new_below x (.cells #[.int .u8 (a : Int), .bool d, .int .i64 t] 58)
      have HB6 := Lib.hid (HB.out.trans (hb6.mono HB.out.size))
      have HO6 := Lib.hid (own_ft (B := 0) (T := []) HO.out (Ft.of_below hb6) (by simp))
      have hd6 := heap_alloc_new x (.cells #[.int .u8 (a : Int), .bool d, .int .i64 t] 58)
      clear hb6 HO HB
      generalize x.alloc (.cells #[.int .u8 (a : Int), .bool d, .int .i64 t] 58) = x6 at *
      have e6 : x6.cell? ⟨x.heap.size, 0, none⟩ = some (.int .u8 (a : Int)) := by simp [World.cell?, hd6]
      clear hd6
      have hb7 := new_below x6 (.cells #[.int .u8 (a : Int)] 5)
      have HB7 := Lib.hid (HB6.out.trans (hb7.mono HB6.out.size))
      have HO7 := Lib.hid (own_ft (B := 0) (T := []) HO6.out (Ft.of_below hb7) (by simp))
      have HH7 : Hid (Holds (x6.alloc (.cells #[.int .u8 (a : Int)] 5)) x6.heap.size (some ⟨x6.heap.size, 0, none⟩) [.int .u8 (a : Int)]) := Lib.hid (Holds.of_row (cs := [.int .u8 (a : Int)]) (heap_alloc_new x6 _))
      have hle7 : w.heap.size ≤ (x6.alloc (.cells #[.int .u8 (a : Int)] 5)).heap.size := HB7.out.size
      clear hb7 HB6 HO6
      go_wp2_with (at_builtin; refine wpList_append_wide rfl (.tmp 15) (.tmp 18) 22 rfl w.heap.size 5 i0 (.int .u8 0) 1 1 Try.underlying22 hi0 hz0 hz1 hz2 rfl (by decide) _ i (bcs (q.bytes.take i)) rfl HO7.out x6.heap.size (some ⟨x6.heap.size, 0, none⟩) 1 1 [.int .u8 (a : Int)] rfl rfl HH7.out (by intro u hu; simp at hu; subst hu; rfl) (by unfold maxLen; omega) (by omega) hle7 ?_)
      intro A8 c8 x8 ho8 hg8
      have hft8 := ft_grown HO7.out hg8
      have HB8 : Hid (Below w.heap.size w x8) := Lib.hid (HB7.out.trans (hft8.below hle7))
      have HO8 : Hid (x8.ownsRow w.heap.size 5 1 (.slice A8 (i + 1) c8) (i + 1) (bcs (q.bytes.take (i + 1)))) := by
        show World.ownsRow _ _ _ _ _ _ _
        rw [HBS.out]
        have e : bcs (q.bytes.take i ++ [UInt8.ofNat a]) = bcs (q.bytes.take i) ++ [.int .u8 (a : Int)] := by
          have := HA.out
          rw [bcs_append]
          congr 1
          simp [bcs]
          omega
        rw [e]
        exact ho8
      clear ho8 hg8 hft8 HB7 HO7 HH7 hle7 hi0 hz0 hz1 hz2 e6
      go_wp2
      go_roundw
      case rel => exact ⟨i + 1, A8, c8, by omega, rfl, by go_num, HO8, HB8⟩
      case measure => simp [intOf]; omega
    · have hkn : n = i := by omega
      subst hkn
      have HRR : Hid (x.ownsRow w.heap.size 5 1 (.slice A5 n c5) n (bcs q.bytes)) := by
        have := HO.out
        rw [List.take_of_length_le (by rw [bytes_len, HN.out]; exact Nat.le_refl _)] at this
        exact this
      go_wp2
      go_ret
      exact ⟨_, _, rfl, HRR.out, HB.out⟩
end Go.Proofs.Ytkghbdikbbeoaaa
