/-
  master's bits, New, State, Epoch, Len, listens, rise, close, Missed, as they landed: what they answer.
-/
import Derived.Test.YtabedmkhhlmbkaaMasMem
import Derived.StillTailTactics
namespace Go.Proofs.Ytabedmkhhlmbkaa
set_option linter.unusedVariables false
set_option linter.unusedSimpArgs false
open Go.RowKit

theorem new_on {w : World} {a : Nat} {t : Int} : Calls Try.prog 35 #[.int .u8 (a : Int), .int .i64 t] w fun e w' => e = .returned (.pointer (some ⟨w.heap.size, 0, none⟩)) ∧ Ms w' w.heap.size w.heap.size (newM a t) ∧ Below w.heap.size w w' := by
  obtain ⟨p, hp⟩ : ∃ p : Int, (if t < 1 then 1 else t) = p := ⟨_, rfl⟩
  have HP : Hid (p = max t 1) := by
    show _ = _
    split at hp <;> omega
  unfold newM
  rw [← HP.out]
  go_enter Try.func35, Try.ntmps35
  go_wp2
  go_ret
  exact ⟨rfl, ⟨Nat.le_refl _, none, 0, [], heap_alloc_new w _, Que.nil _ _ _ _, Rs.nil _ _⟩, new_below _ _⟩
theorem state_on {w : World} {B D : Nat} {m : Ma} (h : Ms w B D m) : Calls Try.prog 23 #[.pointer (some ⟨D, 0, none⟩)] w fun e w' => e = .returned (.int .i64 (m.st : Int)) ∧ w' = w := by
  obtain ⟨A, c, hc⟩ := h.mc
  have h5 := hc.c5
  clear hc h
  go_enter Try.func23, Try.ntmps23
  go_wp2
  go_ret
  exact ⟨rfl, rfl⟩
theorem epoch_on {w : World} {B D : Nat} {m : Ma} (h : Ms w B D m) : Calls Try.prog 24 #[.pointer (some ⟨D, 0, none⟩)] w fun e w' => e = .returned (.int .i64 (m.ep : Int)) ∧ w' = w := by
  obtain ⟨A, c, hc⟩ := h.mc
  have h5 := hc.c6
  clear hc h
  go_enter Try.func24, Try.ntmps24
  go_wp2
  go_ret
  exact ⟨rfl, rfl⟩
theorem len_on {w : World} {B D : Nat} {m : Ma} (h : Ms w B D m) : Calls Try.prog 25 #[.pointer (some ⟨D, 0, none⟩)] w fun e w' => e = .returned (.int .i64 (m.q.length : Int)) ∧ w' = w := by
  obtain ⟨A, c, hc⟩ := h.mc
  have h5 := hc.c8
  clear hc h
  go_enter Try.func25, Try.ntmps25
  go_wp2
  go_ret
  exact ⟨rfl, rfl⟩

theorem xor_one {n : Nat} (h : n ≤ 1) : Go.bits .xor .u8 (n : Int) 1 = ((1 - n : Nat) : Int) := by
  have : n = 0 ∨ n = 1 := by omega
  rcases this with rfl | rfl <;> decide
theorem turnsent_on {w : World} {B D : Nat} {m : Ma} (h : Ms w B D m) (h1 : m.sent ≤ 1) : Calls Try.prog 46 #[.pointer (some ⟨D, 0, none⟩)] w fun e w' => e = .returned (.tuple #[]) ∧ Ms w' B D { m with sent := 1 - m.sent } ∧ Ft B [80] w w' := by
  obtain ⟨A, c, hc⟩ := h.mc
  have c0 := hc.c0
  have f0 := hc.fz 0
  have hx := xor_one h1
  have H := Lib.hid (h.turn [(0, .int .u8 ((1 - m.sent : Nat) : Int))] { m with sent := 1 - m.sent } rfl (fun V => rfl))
  clear hc h h1
  cases m with
  | mk sent hrd addr ses tries st ep ms q =>
  simp only at *
  generalize 1 - sent = s' at *
  go_enter Try.func46, Try.ntmps46
  go_wp2
  go_end0
  exact ⟨rfl, H.out⟩
theorem turnheard_on {w : World} {B D : Nat} {m : Ma} (h : Ms w B D m) (h1 : m.hrd ≤ 1) : Calls Try.prog 47 #[.pointer (some ⟨D, 0, none⟩)] w fun e w' => e = .returned (.tuple #[]) ∧ Ms w' B D { m with hrd := 1 - m.hrd } ∧ Ft B [80] w w' := by
  obtain ⟨A, c, hc⟩ := h.mc
  have c0 := hc.c1
  have f0 := hc.fz 1
  have hx := xor_one h1
  have H := Lib.hid (h.turn [(1, .int .u8 ((1 - m.hrd : Nat) : Int))] { m with hrd := 1 - m.hrd } rfl (fun V => rfl))
  clear hc h h1
  cases m with
  | mk sent hrd addr ses tries st ep ms q =>
  simp only at *
  generalize 1 - hrd = s' at *
  go_enter Try.func47, Try.ntmps47
  go_wp2
  go_end0
  exact ⟨rfl, H.out⟩
theorem begin_on {w : World} {B D : Nat} {m : Ma} (h : Ms w B D m) : Calls Try.prog 44 #[.pointer (some ⟨D, 0, none⟩)] w fun e w' => e = .returned (.tuple #[]) ∧ Ms w' B D { m with sent := 0, hrd := 0 } ∧ Ft B [80] w w' := by
  obtain ⟨A, c, hc⟩ := h.mc
  have c0 := hc.c0
  have f0 := hc.fz 0
  have c1 := hc.c1
  have f1 := hc.fz 1
  have H := Lib.hid (h.turn [(0, .int .u8 0), (1, .int .u8 0)] { m with sent := 0, hrd := 0 } rfl (fun V => rfl))
  clear hc h
  go_enter Try.func44, Try.ntmps44
  go_wp2
  go_end0
  exact ⟨rfl, H.out⟩
theorem rise_on {w : World} {B D : Nat} {m : Ma} (h : Ms w B D m) (hep : m.ep ≤ 1000000) : Calls Try.prog 38 #[.pointer (some ⟨D, 0, none⟩)] w fun e w' => e = .returned (.tuple #[]) ∧ Ms w' B D (riseM m) ∧ Ft B [80] w w' := by
  obtain ⟨A, c, hc⟩ := h.mc
  have c5 := hc.c5
  have f5 := hc.fz 5
  have c6 := hc.c6
  have f6 := hc.fz 6
  have H := Lib.hid (h.turn [(5, .int .i64 1), (6, .int .i64 ((m.ep : Int) + 1))] { m with st := 1, ep := m.ep + 1 } rfl (fun V => rfl))
  clear hc h
  have HR : Hid (riseM m = { m with st := 1, ep := m.ep + 1, sent := 0, hrd := 0 }) := rfl
  go_enter Try.func38, Try.ntmps38
  go_wp2_with fail
  refine (begin_on H.out.1).mono ?_
  rintro e x ⟨rfl, h1, h2⟩
  have H1 := Lib.hid h1
  have H2 := Lib.hid h2
  clear h1 h2 c5 c6 f5 f6
  go_wp2
  go_end0
  exact ⟨rfl, H1.out, H.out.2.trans H2.out⟩
theorem close_on {w : World} {B D : Nat} {m : Ma} (h : Ms w B D m) (hs : 1 ≤ m.ses) (hs' : m.ses ≤ 255) : Calls Try.prog 39 #[.pointer (some ⟨D, 0, none⟩)] w fun e w' => e = .returned (.tuple #[]) ∧ Ms w' B D (closeM m) ∧ Ft B [80] w w' := by
  obtain ⟨A, c, hc⟩ := h.mc
  have c5 := hc.c5
  have f5 := hc.fz 5
  have c8 := hc.c8
  have f8 := hc.fz 8
  have c3 := hc.c3
  have f3 := hc.fz 3
  have H := Lib.hid (h.turnq (T := []) (Ft.refl B [] w) (by simp) [(5, .int .i64 0), (8, .slice none 0 0), (3, .int .u8 (nxt m.ses : Int))] (closeM m) (A' := none) (c' := 0) (Que.nil _ _ _ _) (Rs.nil _ _) (fun V => rfl))
  have HX : Hid ((m.ses : Int) % 255 + 1 = (nxt m.ses : Int)) := by
    show _ = _
    unfold nxt
    split <;> omega
  clear hc h hs hs'
  generalize nxt m.ses = s' at *
  generalize closeM m = mm at *
  go_enter Try.func39, Try.ntmps39
  go_wp2
  go_end0
  rw [HX.out]
  exact ⟨rfl, H.out⟩

end Go.Proofs.Ytabedmkhhlmbkaa
