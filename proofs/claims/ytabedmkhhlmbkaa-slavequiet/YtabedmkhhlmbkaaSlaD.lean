/-
  A line of two ends in memory; the ops of lamplightlaw08.line: Send, Offer.
-/
import Derived.Test.YtabedmkhhlmbkaaSlaC
import Derived.Test.YtabedmkhhlmbkaaSlaInv
import Derived.Test.YtabedmkhhlmbkaaFLast
namespace Go.Proofs.Ytabedmkhhlmbkaa
set_option linter.unusedVariables false
set_option linter.unusedSimpArgs false
open Go.RowKit

abbrev lcs (D S : Nat) (l : Ln) (Vd Vu : Value) : Array Value := #[.pointer (some ⟨D, 0, none⟩), .pointer (some ⟨S, 0, none⟩), Vd, Vu, .int .i64 (l.sent : Int), .int .i64 (l.came : Int), .int .i64 (l.offered : Int), .int .i64 (l.heard : Int)]
/-- A line at L: a master at D, a slave at S, what is on its way. -/
structure Lx (w : World) (L D S N : Nat) (l : Ln) (Ad Au : Option Addr) (cd cu : Nat) (td tu : List Kf) (x : World) : Prop where
  m : Lm w D N l.m x
  s : Ls w S l.s x
  row : x.heap[L]? = some (.cells (lcs D S l (.slice Ad l.down.length cd) (.slice Au l.up.length cu)) 60 (0, 0))
  dn : Fq x w.heap.size Ad cd td l.down
  up : Fq x w.heap.size Au cu tu l.up
  ne : ∀ b ∈ ablk Ad, b ∉ ablk Au
  le : w.heap.size ≤ L
  nums : l.sent ≤ N ∧ l.came ≤ N ∧ l.offered ≤ N ∧ l.heard ≤ N
def Lxx (w : World) (L D S N : Nat) (l : Ln) (x : World) : Prop := ∃ Ad Au cd cu td tu, Lx w L D S N l Ad Au cd cu td tu x
section
variable {w x y : World} {L D S N cd cu : Nat} {l : Ln} {Ad Au : Option Addr} {td tu : List Kf}
theorem Lx.below (h : Lx w L D S N l Ad Au cd cu td tu x) : Below w.heap.size w x := h.m.below
theorem Lx.lt (h : Lx w L D S N l Ad Au cd cu td tu x) : L < x.heap.size := (Array.getElem?_eq_some_iff.1 h.row).1
theorem Lx.step (h : Lx w L D S N l Ad Au cd cu td tu x) (hb : Below x.heap.size x y) : Lx w L D S N l Ad Au cd cu td tu y :=
  ⟨h.m.step hb, h.s.step hb, (hb.block L h.lt).trans h.row, h.dn.step hb, h.up.step hb, h.ne, h.le, h.nums⟩
theorem Lx.more {M : Nat} (h : Lx w L D S N l Ad Au cd cu td tu x) (hM : N ≤ M) : Lx w L D S M l Ad Au cd cu td tu x :=
  ⟨h.m.more hM, h.s, h.row, h.dn, h.up, h.ne, h.le, ⟨Nat.le_trans h.nums.1 hM, Nat.le_trans h.nums.2.1 hM, Nat.le_trans h.nums.2.2.1 hM, Nat.le_trans h.nums.2.2.2 hM⟩⟩
/-- The master has turned. -/
theorem Lx.mas {M : Nat} {m' : Ma} (h : Lx w L D S N l Ad Au cd cu td tu x) (hm : Lm w D M m' y) (hf : Ft D [80, 28] x y) (hM : N ≤ M) : Lx w L D S M { l with m := m' } Ad Au cd cu td tu y :=
  ⟨hm, h.s.ft hf h.m.le (by decide) (by decide), hf.keep h.row (by decide), h.dn.ft hf (by decide) (by decide), h.up.ft hf (by decide) (by decide), h.ne, h.le, ⟨Nat.le_trans h.nums.1 hM, Nat.le_trans h.nums.2.1 hM, Nat.le_trans h.nums.2.2.1 hM, Nat.le_trans h.nums.2.2.2 hM⟩⟩
/-- The slave has turned. -/
theorem Lx.sla {s' : Sl} (h : Lx w L D S N l Ad Au cd cu td tu x) (hs : Ls w S s' y) (hf : Ft S [37] x y) : Lx w L D S N { l with s := s' } Ad Au cd cu td tu y :=
  ⟨h.m.ft hf h.s.le (by decide) (by decide) (by decide), hs, hf.keep h.row (by decide), h.dn.ft hf (by decide) (by decide), h.up.ft hf (by decide) (by decide), h.ne, h.le, h.nums⟩
structure Lc (x : World) (L D S : Nat) (l : Ln) (Vd Vu : Value) : Prop where
  c0 : x.cell? ⟨L, 0, none⟩ = some (.pointer (some ⟨D, 0, none⟩))
  c1 : x.cell? ⟨L, 1, none⟩ = some (.pointer (some ⟨S, 0, none⟩))
  c2 : x.cell? ⟨L, 2, none⟩ = some Vd
  c3 : x.cell? ⟨L, 3, none⟩ = some Vu
  c4 : x.cell? ⟨L, 4, none⟩ = some (.int .i64 (l.sent : Int))
  c5 : x.cell? ⟨L, 5, none⟩ = some (.int .i64 (l.came : Int))
  c6 : x.cell? ⟨L, 6, none⟩ = some (.int .i64 (l.offered : Int))
  c7 : x.cell? ⟨L, 7, none⟩ = some (.int .i64 (l.heard : Int))
  fz : ∀ i, x.frozen? ⟨L, i, none⟩ = false
theorem Lx.lc (h : Lx w L D S N l Ad Au cd cu td tu x) : Lc x L D S l (.slice Ad l.down.length cd) (.slice Au l.up.length cu) := by
  have k := h.row
  constructor
  all_goals first | (simp [World.cell?, k]; done) | (intro i; simp [World.frozen?, k])
/-- One of the line's own cells is set: numbers, and rows. -/
theorem Lx.set {l' : Ln} {Ad' Au' : Option Addr} {cd' cu' : Nat} {td' tu' : List Kf} {M : Nat} (h : Lx w L D S N l Ad Au cd cu td tu x) (ls : List (Nat × Value)) (hm : l'.m = l.m) (hs : l'.s = l.s) (hM : N ≤ M)
    (hc : setsA ls (lcs D S l (.slice Ad l.down.length cd) (.slice Au l.up.length cu)) = lcs D S l' (.slice Ad' l'.down.length cd') (.slice Au' l'.up.length cu'))
    (hd : Fq x w.heap.size Ad' cd' td' l'.down) (hu : Fq x w.heap.size Au' cu' tu' l'.up) (hne : ∀ b ∈ ablk Ad', b ∉ ablk Au') (hn : l'.sent ≤ M ∧ l'.came ≤ M ∧ l'.offered ≤ M ∧ l'.heard ≤ M) : Lx w L D S M l' Ad' Au' cd' cu' td' tu' (sets L ls x) := by
  obtain ⟨h1, h2⟩ := sets_row ls h.row
  have hft : Ft w.heap.size [60] x (sets L ls x) := Ft.of_ch h2 (fun y hy _ => by simp at hy; subst hy; exact ⟨h.le, _, _, _, h.row, by simp⟩)
  rw [hc] at h1
  exact ⟨by rw [hm]; exact (h.m.ft hft (Nat.le_refl _) (by decide) (by decide) (by decide)).more hM, by rw [hs]; exact h.s.ft hft (Nat.le_refl _) (by decide) (by decide), h1, hd.ft hft (by decide) (by decide), hu.ft hft (by decide) (by decide), hne, h.le, hn⟩
end

theorem two_row (y : World) (n u : Nat) (b : UInt8) (hu : n % 256 = u) : Hb (y.alloc (.cells #[.int .u8 (u : Int), .int .u8 (b.toNat : Int)] 5)) 0 (some ⟨y.heap.size, 0, none⟩) [UInt8.ofNat n, b] := by
  have h := Hb.lit y 0 [UInt8.ofNat n, b] (0, 0)
  have e : (bcs [UInt8.ofNat n, b]).toArray = #[.int .u8 (u : Int), .int .u8 (b.toNat : Int)] := by
    simp [bcs]
    omega
  rw [e] at h
  exact h
theorem Hb.wide {x : World} {D : Nat} {A : Option Addr} {l : List UInt8} (h : Hb x 0 A l) : Hb x D A l := by
  obtain ⟨g, h1, h2⟩ := h
  exact ⟨g, h1, h2.elim (fun h => absurd h (by omega)) .inr⟩

/-- What an op answers. -/
def DoesPost (w : World) (L D S N : Nat) (l : Ln) (k : Int) (e : Ending) (y : World) : Prop := e = .returned (.bool true) ∧ Lxx w L D S (N + 1) (doesL l k).1 y

set_option maxRecDepth 20000 in
set_option maxHeartbeats 3200000 in
theorem does_send (C : SlaCond) {w x : World} {L D S N cd cu : Nat} {l : Ln} {Ad Au : Option Addr} {td tu : List Kf} (h : Lx w L D S N l Ad Au cd cu td tu x) (hN : N ≤ 100000) :
    Calls Try.prog 22 #[.pointer (some ⟨L, 0, none⟩), .agg #[.int .i64 0]] x (DoesPost w L D S N l 0) := by
  have HP : Hid (∀ y l', (sendL l).1 = l' → Lxx w L D S (N + 1) l' y → DoesPost w L D S N l 0 (.returned (.bool true)) y) := fun y l' he hh => ⟨rfl, by show Lxx _ _ _ _ _ (sendL l).1 _; rw [he]; exact hh⟩
  have HX := Lib.hid (h.step (new_below x (.cells #[.int .i64 0] 56)))
  have hns := h.nums.1
  clear h
  generalize DoesPost w L D S N l 0 = Q at *
  go_enter Try.func22, Try.ntmps22
  go_upto_region 3 with fail
  generalize x.alloc (.cells #[.int .i64 0] 56) = x1 at *
  have HX1 := Lib.hid (HX.out.step (drew_below x1))
  have hc := HX1.out.lc
  refine region_plan [(true, 0), (true, 1), (true, 2), (true, 3), (true, 4), (true, 5), (true, 6), (true, 7), (true, 8), (false, 9), (false, 10), (true, 11)]
    (fun y => y.cell? ⟨L, 0, none⟩ = some (.pointer (some ⟨D, 0, none⟩)) ∧ y.cell? ⟨L, 4, none⟩ = some (.int .i64 (l.sent : Int))) (by kernel_rfl) (by kernel_rfl) (by kernel_rfl) rfl ⟨hc.c0, hc.c4⟩ ?_
  clear hc HX
  generalize x1.drew = x2 at *
  obtain ⟨u, hu⟩ : ∃ u, l.sent % 256 = u := ⟨_, rfl⟩
  have hwr : IntKind.u8.wrap (l.sent : Int) = (u : Int) := by rw [IntKind.wrap_u8]; omega
  have HHB : Hid (Hb (x2.alloc (.cells #[.int .u8 (u : Int), .int .u8 1] 5)) 0 (some ⟨x2.heap.size, 0, none⟩) (cmdB l.sent)) := two_row x2 l.sent u 1 hu
  have HB2 := Lib.hid (new_below x2 (.cells #[.int .u8 (u : Int), .int .u8 1] 5))
  have hmm : (l.sent : Int) % 256 = (u : Int) := by omega
  clear hu
  iterate 9 (refine Plan.take (v := ?_) rfl (by rfl) ?_ ?_; rotate_left 1; (focus (intro x hx; go_simp <;> (first | with_reducible rfl | rw [if_pos (by omega)]))); simp only [Act.put, List.setIfInBounds_toArray, List.set_cons_zero, List.set_cons_succ])
  refine Plan.loud rfl (fun K hK => ?_)
  go_simp
  have HX3 := Lib.hid (HX1.out.step HB2.out)
  have hc := HX3.out.lc
  refine hK.out _ _ _ (fun x hx => hx) ⟨hc.c0, hc.c4⟩ ?_
  clear hK K hc HX1 HB2
  generalize x2.alloc (.cells #[.int .u8 (u : Int), .int .u8 1] 5) = x3 at *
  generalize x2.heap.size = G at *
  refine Plan.loud rfl (fun K hK => ?_)
  go_simp
  refine (send_lm HX3.out.m HHB.out.wide rfl).mono ?_
  rintro e x4 ⟨rfl, h4, hf4⟩
  have HX4 : Hid (Lx w L D S N { l with m := (sendM l.m (cmdB l.sent)).1 } Ad Au cd cu td tu x4) := HX3.out.mas h4 hf4 (Nat.le_refl _)
  have hc := HX4.out.lc
  refine hK.out _ _ _ (fun x hx => hx) ⟨hc.c0, hc.c4⟩ ?_
  clear hK K h4 hf4 HX3
  have c4 : x4.cell? ⟨L, 4, none⟩ = some (.int .i64 (l.sent : Int)) := hc.c4
  have f4 := hc.fz 4
  clear hc
  have HSE : Hid ((sendL l).1 = { l with m := (sendM l.m (cmdB l.sent)).1, sent := if (sendM l.m (cmdB l.sent)).2 = 0 then l.sent + 1 else l.sent }) := rfl
  generalize (sendM l.m (cmdB l.sent)).1 = m' at *
  generalize (sendM l.m (cmdB l.sent)).2 = er at *
  by_cases her : er = 0
  · subst her
    have HX5 := Lib.hid (HX4.out.set (l' := { l with m := m', sent := l.sent + 1 }) (M := N + 1) [(4, .int .i64 ((l.sent : Int) + 1))] rfl rfl (Nat.le_succ _) (by simp [setsA]) HX4.out.dn HX4.out.up HX4.out.ne ⟨Nat.succ_le_succ HX4.out.nums.1, Nat.le_succ_of_le HX4.out.nums.2.1, Nat.le_succ_of_le HX4.out.nums.2.2.1, Nat.le_succ_of_le HX4.out.nums.2.2.2⟩)
    iterate 1 (refine Plan.take (v := ?_) rfl (by rfl) ?_ ?_; rotate_left 1; (focus (intro x hx; go_simp <;> (first | with_reducible rfl | rw [if_pos (by omega)]))); simp only [Act.put, List.setIfInBounds_toArray, List.set_cons_zero, List.set_cons_succ])
    refine Plan.done ?_
    go_wp2
    exact HP.out _ _ (HSE.out.trans (by simp)) ⟨_, _, _, _, _, _, HX5.out⟩
  · have her' : (er == 0) = false := by simpa using her
    have HX5 := Lib.hid (HX4.out.more (Nat.le_succ N))
    have HNE := Lib.hid her
    clear her
    iterate 1 (refine Plan.take (v := ?_) rfl (by rfl) ?_ ?_; rotate_left 1; (focus (intro x hx; go_simp <;> (first | with_reducible rfl | rw [if_pos (by omega)]))); simp only [Act.put, List.setIfInBounds_toArray, List.set_cons_zero, List.set_cons_succ])
    refine Plan.done ?_
    go_wp2
    exact HP.out _ _ (HSE.out.trans (by simp [HNE.out])) ⟨_, _, _, _, _, _, HX5.out⟩

end Go.Proofs.Ytabedmkhhlmbkaa
