/-
  slave's Take of a frame that is not for it, whatever its bytes; a step's frame; what layer 8's laws share.
-/
import Derived.Test.YtabedmkhhlmbkaaSlaS
import Derived.Test.YtabedmkhhlmbkaaMasH
import Derived.Deep.DeepCutAuto
namespace Go.Proofs.Ytabedmkhhlmbkaa
set_option linter.unusedVariables false
set_option linter.unusedSimpArgs false
open Go.RowKit

theorem StepsAt.keep {w x : World} {P : Option Addr} {ss : List St7} (h : StepsAt w P ss) (hb : Below w.heap.size w x) : StepsAt x P ss := by
  intro i s hs
  obtain ⟨b, o, g, A, c, h1, h2, h3, h4, h5, h6, h7, h8, h9⟩ := h i s hs
  exact ⟨b, o, g, A, c, h1, Nat.lt_of_lt_of_le h2 hb.size, (hb.cell (p := ⟨b, o + i * 8, none⟩) h2).trans h3, h4.keep hb h2, (hb.cell (p := ⟨b, o + i * 8 + 7, none⟩) h2).trans h5, h6, h7.keep (F := []) (Ch.of_below hb) (by simp), h8, h9⟩
/-- The eight cells of a step. -/
structure Sc8 (x : World) (b o i : Nat) (s : St7) (A : Option Addr) (c : Nat) : Prop where
  c0 : x.cell? ⟨b, o + i * 8, none⟩ = some (.int .i64 s.k)
  c1 : x.cell? ⟨b, o + i * 8 + 1, none⟩ = some (.int .u8 (s.f.a : Int))
  c2 : x.cell? ⟨b, o + i * 8 + 2, none⟩ = some (.int .u8 (s.f.k : Int))
  c3 : x.cell? ⟨b, o + i * 8 + 3, none⟩ = some (.int .u8 (s.f.s : Int))
  c4 : x.cell? ⟨b, o + i * 8 + 4, none⟩ = some (.int .u8 (s.f.q : Int))
  c5 : x.cell? ⟨b, o + i * 8 + 5, none⟩ = some (.int .u8 (s.f.c : Int))
  c6 : x.cell? ⟨b, o + i * 8 + 6, none⟩ = some (.slice A s.f.b.length c)
  c7 : x.cell? ⟨b, o + i * 8 + 7, none⟩ = some (.bool s.own)
theorem Sc8.step {w x : World} {b o i c : Nat} {s : St7} {A : Option Addr} (h : Sc8 w b o i s A c) (hb : Below w.heap.size w x) : Sc8 x b o i s A c := by
  have hl : b < w.heap.size := World.block_lt_of_cell? w _ h.c0
  exact ⟨(hb.cell (p := ⟨b, _, none⟩) hl).trans h.c0, (hb.cell (p := ⟨b, _, none⟩) hl).trans h.c1, (hb.cell (p := ⟨b, _, none⟩) hl).trans h.c2, (hb.cell (p := ⟨b, _, none⟩) hl).trans h.c3, (hb.cell (p := ⟨b, _, none⟩) hl).trans h.c4, (hb.cell (p := ⟨b, _, none⟩) hl).trans h.c5, (hb.cell (p := ⟨b, _, none⟩) hl).trans h.c6, (hb.cell (p := ⟨b, _, none⟩) hl).trans h.c7⟩
theorem StepsAt.at {w : World} {P : Option Addr} {ss : List St7} (h : StepsAt w P ss) (i : Nat) (hi : i < ss.length) : ∃ b o g A c, P = some ⟨b, o, none⟩ ∧ Sc8 w b o i ss[i] A c ∧ ss[i].f.Fits ∧ Holds w g A (bcs ss[i].f.b) ∧ ss[i].f.b.length ≤ c ∧ c ≤ maxLen := by
  obtain ⟨b, o, g, A, c, h1, h2, h3, ⟨q0, q1, q2, q3, q4, q5⟩, h5, h6, h7, h8, h9⟩ := h i _ (List.getElem?_eq_getElem hi)
  exact ⟨b, o, g, A, c, h1, ⟨h3, q0, q1, q2, q3, q4, q5, h5⟩, h6, h7, h8, h9⟩

/-- The document's frame in a row of its own. -/
def Rx (w : World) (X : Nat) (f : Fr) : Prop := w.heap[X]? = some (.cells (rcs f) 44 (0, 0))
theorem Rx.ft {w w' : World} {B X : Nat} {T : List TypeId} {f : Fr} (h : Rx w X f) (hc : Ft B T w w') (hT : 44 ∉ T) : Rx w' X f := hc.keep h hT
theorem Rx.step {w w' : World} {X : Nat} {f : Fr} (h : Rx w X f) (hb : Below w.heap.size w w') : Rx w' X f := (hb.block X (Array.getElem?_eq_some_iff.1 h).1).trans h
structure Rc (w : World) (X : Nat) (f : Fr) : Prop where
  c0 : w.cell? ⟨X, 0, none⟩ = some (.int .u8 (f.a : Int))
  c1 : w.cell? ⟨X, 1, none⟩ = some (.int .u8 (f.k : Int))
  c2 : w.cell? ⟨X, 2, none⟩ = some (.int .u8 (f.s : Int))
  c3 : w.cell? ⟨X, 3, none⟩ = some (.int .u8 (f.q : Int))
  c4 : w.cell? ⟨X, 4, none⟩ = some (.int .u8 (f.c : Int))
  c5 : w.cell? ⟨X, 5, none⟩ = some (.string ⟨f.b.toArray⟩)
theorem Rx.rc {w : World} {X : Nat} {f : Fr} (h : Rx w X f) : Rc w X f := by
  unfold Rx at h
  constructor <;> simp [World.cell?, h]

theorem offerS_addr (s : Sl) (b : List UInt8) : (offerS s b).1.addr = s.addr := by
  unfold offerS
  split
  · rfl
  · split <;> rfl
theorem cmdS_addr (s : Sl) (f : Fr) : (cmdS s f).1.addr = s.addr := by unfold cmdS; split <;> rfl
theorem gotS_addr (s : Sl) (c : Nat) : (gotS s c).addr = s.addr := by unfold gotS; split <;> rfl
theorem takeS_addr (s : Sl) (f : Fr) : (takeS s f).1.addr = s.addr := by
  unfold takeS
  split
  · rfl
  · split
    · rfl
    · split
      · rfl
      · exact (cmdS_addr _ f).trans (gotS_addr s f.c)
theorem Ls.base {w0 w x : World} {D : Nat} {s : Sl} (h : Ls w0 D s x) (hb : Below w.heap.size w w0) : Ls w D s x := ⟨h.sv, h.ok, hb.trans (h.below.mono hb.size), Nat.le_trans hb.size h.le⟩
theorem deafS {s : Sl} {f : Fr} (h : f.a = s.addr → f.k < 1 ∨ 3 < f.k) : takeS s f = (s, noFrS, [], false) := by
  unfold takeS
  rw [if_pos]
  by_cases ha : f.a = s.addr
  · exact .inr (h ha)
  · exact .inl ha
theorem otherS {s : Sl} {a t q c : Nat} {b : List UInt8} (ha : s.addr = a) (ht : t ≠ s.ses) : takeS s ⟨a, 2, t, q, c, b⟩ = (s, ⟨a, 5, s.ses, 0, 0, []⟩, [], true) := by
  subst ha
  unfold takeS
  rw [if_neg (by simp), if_neg (by simp), if_pos (.inl ht)]

set_option maxRecDepth 20000 in
set_option maxHeartbeats 3200000 in
theorem stake_deaf {w : World} {B D n c : Nat} {s : Sl} {f : Fr} {A : Option Addr} (h : Sv w B D s) (hd : f.a = s.addr → f.k < 1 ∨ 3 < f.k) : Calls Try.prog 16 #[.pointer (some ⟨D, 0, none⟩), .agg (fcs f (.slice A n c))] w fun e w' =>
    e = .returned (.tuple #[.agg noFr, .slice none 0 0, .bool false]) ∧ Sv w' B D s ∧ Ft B [37] w w' := by
  have HB := Lib.hid (new_below w (.cells (fcs f (.slice A n c)) 30))
  have HB1 := Lib.hid (new_below (w.alloc (.cells (fcs f (.slice A n c)) 30)) (.cells noFr 30))
  have HX0 : Hid (Fx ((w.alloc (.cells (fcs f (.slice A n c)) 30)).alloc (.cells noFr 30)) w.heap.size f (.slice A n c)) := Fx.step (heap_alloc_new w _) HB1.out
  have HSV := Lib.hid ((h.step HB.out).step HB1.out)
  have HR0 : Hid (Fx ((w.alloc (.cells (fcs f (.slice A n c)) 30)).alloc (.cells noFr 30)) (w.heap.size + 1) ⟨0, 0, 0, 0, 0, []⟩ (.slice none 0 0)) := by
    have k := heap_alloc_new (w.alloc (.cells (fcs f (.slice A n c)) 30)) (.cells noFr 30)
    rw [show (w.alloc (.cells (fcs f (.slice A n c)) 30)).heap.size = w.heap.size + 1 by simp] at k
    exact k
  have HFT : Hid (Ft B [37] w ((w.alloc (.cells (fcs f (.slice A n c)) 30)).alloc (.cells noFr 30))) := (Ft.of_below HB.out).step HB1.out
  clear HB HB1 h
  go_enter Try.func16, Try.ntmps16
  go_upto_region 1 with fail
  replace HSV := Lib.hid (HSV.out.step (drew_below _))
  replace HX0 := Lib.hid (HX0.out.step (drew_below _))
  replace HR0 := Lib.hid (HR0.out.step (drew_below _))
  replace HFT := Lib.hid (HFT.out.step (drew_below _))
  obtain ⟨A1, cc1, hc⟩ := HSV.out.sc
  have c3 := hc.c3
  have e0 := HX0.out.fc.c0
  clear hc
  generalize hX : w.heap.size = X at *
  refine region_plan [(true, 0), (true, 1), (true, 2), (true, 3), (true, 4), (true, 5), (true, 6)]
    (fun y => y.cell? ⟨X, 0, none⟩ = some (.int .u8 (f.a : Int)) ∧ y.cell? ⟨D, 3, none⟩ = some (.int .u8 (s.addr : Int))) (by kernel_rfl) (by kernel_rfl) (by kernel_rfl) rfl ⟨e0, c3⟩ ?_
  clear c3 e0
  generalize World.drew _ = x1 at *
  obtain ⟨R, hR⟩ : ∃ R, X + 1 = R := ⟨_, rfl⟩
  have HWR : Hid (w.heap.size ≤ R) := by show _ ≤ _; omega
  rw [hR] at HR0 ⊢
  clear hR hX
  iterate 7 (refine Plan.take (v := ?_) rfl (by rfl) ?_ ?_; rotate_left 1; (focus (intro x hx; go_simp <;> (first | with_reducible rfl | rw [if_pos (by omega)]))); simp only [Act.put, List.setIfInBounds_toArray, List.set_cons_zero, List.set_cons_succ])
  refine Plan.done ?_
  have e1 := HX0.out.fc.c1
  have hfR := HR0.out.fc
  have r0 := hfR.c0
  have r1 := hfR.c1
  have r2 := hfR.c2
  have r3 := hfR.c3
  have r4 := hfR.c4
  have r5 := hfR.c5
  have q0 := hfR.fz 0
  have q1 := hfR.fz 1
  have q2 := hfR.fz 2
  have q3 := hfR.fz 3
  have q4 := hfR.fz 4
  have q5 := hfR.fz 5
  clear hfR
  have HEND : Hid ((sets R [(0, .int .u8 0), (1, .int .u8 0), (2, .int .u8 0), (3, .int .u8 0), (4, .int .u8 0), (5, .slice none 0 0)] x1).heap[R]? = some (.cells (fcs noFrS (.slice none 0 0)) 30 (0, 0)) ∧ Sv (sets R [(0, .int .u8 0), (1, .int .u8 0), (2, .int .u8 0), (3, .int .u8 0), (4, .int .u8 0), (5, .slice none 0 0)] x1) B D s ∧ Ft B [37] w (sets R [(0, .int .u8 0), (1, .int .u8 0), (2, .int .u8 0), (3, .int .u8 0), (4, .int .u8 0), (5, .slice none 0 0)] x1)) := by
    obtain ⟨h1, h2⟩ := sets_row [(0, .int .u8 0), (1, .int .u8 0), (2, .int .u8 0), (3, .int .u8 0), (4, .int .u8 0), (5, .slice none 0 0)] HR0.out
    have hft : Ft 0 [30] x1 (sets R [(0, .int .u8 0), (1, .int .u8 0), (2, .int .u8 0), (3, .int .u8 0), (4, .int .u8 0), (5, .slice none 0 0)] x1) := Ft.of_ch h2 (fun y hy _ => by simp at hy; subst hy; exact ⟨Nat.zero_le _, _, _, _, HR0.out, by simp⟩)
    refine ⟨h1, HSV.out.ft hft (by decide) (by decide), h2.os.trans HFT.out.os, h2.tape.trans HFT.out.tape, h2.output.trans HFT.out.output, Nat.le_trans HFT.out.size h2.size, fun k hk hb => ?_⟩
    rw [h2.block k (Nat.lt_of_lt_of_le hk HFT.out.size) (by have := HWR.out; simp; omega)]
    exact HFT.out.block k hk hb
  by_cases ha : f.a = s.addr
  · have hk := hd ha
    have k1 : ((f.k : Int) == 1) = false := by simp; omega
    have k2 : ((f.k : Int) == 2) = false := by simp; omega
    have k3 : ((f.k : Int) == 3) = false := by simp; omega
    have ha' : ((f.a : Int) != (s.addr : Int)) = false := by simp; omega
    clear hk ha hd
    go_wp2
    exact bodyPost_ret (results_row_two rfl _ _ R 30 _ _ rfl HEND.out.1 frame_struct frame_size) rfl ⟨rfl, HEND.out.2⟩
  · have ha' : ((f.a : Int) != (s.addr : Int)) = true := by simp; omega
    clear ha hd
    go_wp2
    exact bodyPost_ret (results_row_two rfl _ _ R 30 _ _ rfl HEND.out.1 frame_struct frame_size) rfl ⟨rfl, HEND.out.2⟩

end Go.Proofs.Ytabedmkhhlmbkaa
