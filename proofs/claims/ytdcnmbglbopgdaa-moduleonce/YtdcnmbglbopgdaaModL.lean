/-
  What layer 11's laws share: a line to a module (opened, tells, press), under the conditions on module's calls.
-/
import Derived.Test.YtdcnmbglbopgdaaModC
import Derived.Test.YtdcnmbglbopgdaaFClone
import Derived.Deep.DeepCutAuto
namespace Go.Proofs.Ytdcnmbglbopgdaa
set_option linter.unusedVariables false
set_option linter.unusedSimpArgs false
open Go.RowKit

variable {Mp : World → List Nat → Nat → Mo → Prop}
theorem Lm.less {w x : World} {V V' : List Nat} {D : Nat} {m : Mo} (h : Lm Mp w V D m x) (hV : ∀ k ∈ V', k ∈ V) : Lm Mp w V' D m x := by
  obtain ⟨F, h1, h2⟩ := h.ex
  exact ⟨⟨F, h1, fun k hk => ⟨(h2 k hk).1, fun hv => (h2 k hk).2 (hV k hv)⟩⟩, h.ok, h.below, fun k hk => h.vs k (hV k hk)⟩
theorem Lm.base {w x y : World} {V : List Nat} {D : Nat} {m : Mo} (h : Lm Mp x V D m y) (hb : Below w.heap.size w x) : Lm Mp w V D m y := by
  obtain ⟨F, h1, h2⟩ := h.ex
  have := hb.size
  exact ⟨⟨F, h1, fun k hk => ⟨by have := (h2 k hk).1; omega, (h2 k hk).2⟩⟩, h.ok, hb.trans (h.below.mono hb.size), h.vs⟩
/-- A block that came behind is none of its own. -/
theorem Lm.moreg {w x y : World} {V : List Nat} {D g : Nat} {m : Mo} (MC : ModCond Mp) (h : Lm Mp w V D m x) (hb : Below x.heap.size x y) (h1 : x.heap.size ≤ g) (h2 : g < y.heap.size) : Lm Mp w (g :: V) D m y := by
  have h' := h.step MC hb
  obtain ⟨F, q1, q2⟩ := h.ex
  refine ⟨⟨F, MC.keep q1 (fun k hk => hb.block k (MC.lt q1 k hk)), fun k hk => ⟨(q2 k hk).1, ?_⟩⟩, h'.ok, h'.below, ?_⟩
  · have h3 := MC.lt q1 k hk
    simp
    exact ⟨by omega, (q2 k hk).2⟩
  · intro k hk
    rcases List.mem_cons.1 hk with rfl | hk
    · exact h2
    · exact h'.vs k hk
abbrev lnc (D seq ack : Nat) : Array Value := #[.pointer (some ⟨D, 0, none⟩), .int .u8 (seq : Int), .int .u8 (ack : Int)]
/-- A line at X, its module at D. -/
structure Ll (Mp : World → List Nat → Nat → Mo → Prop) (w : World) (V : List Nat) (X D : Nat) (m : Mo) (seq ack : Nat) (x : World) : Prop where
  lm : Lm Mp w (X :: V) D m x
  at_ : x.heap[X]? = some (.cells (lnc D seq ack) 77 (0, 0))
  le : w.heap.size ≤ X
theorem Ll.step {w x y : World} {V : List Nat} {X D seq ack : Nat} {m : Mo} (MC : ModCond Mp) (h : Ll Mp w V X D m seq ack x) (hb : Below x.heap.size x y) : Ll Mp w V X D m seq ack y :=
  ⟨h.lm.step MC hb, (hb.block X (Array.getElem?_eq_some_iff.1 h.at_).1).trans h.at_, h.le⟩
theorem Ll.cells {w x : World} {V : List Nat} {X D seq ack : Nat} {m : Mo} (h : Ll Mp w V X D m seq ack x) : x.cell? ⟨X, 0, none⟩ = some (.pointer (some ⟨D, 0, none⟩)) ∧ x.cell? ⟨X, 1, none⟩ = some (.int .u8 (seq : Int)) ∧ x.cell? ⟨X, 2, none⟩ = some (.int .u8 (ack : Int)) := by
  have := h.at_
  refine ⟨?_, ?_, ?_⟩ <;> simp [World.cell?, this]
theorem Ll.fz {w x : World} {V : List Nat} {X D seq ack : Nat} {m : Mo} (h : Ll Mp w V X D m seq ack x) (i : Nat) : x.frozen? ⟨X, i, none⟩ = false := by
  have := h.at_
  simp [World.frozen?, this]
theorem Ll.turn {w x y : World} {V : List Nat} {X D seq ack : Nat} {m m' : Mo} (h : Ll Mp w V X D m seq ack x) (h1 : Lm Mp w (X :: V) D m' y) (hv : Vs (X :: V) x y) : Ll Mp w V X D m' seq ack y :=
  ⟨h1, (hv.block X (List.mem_cons_self ..)).trans h.at_, h.le⟩
theorem Ll.base {w x y : World} {V : List Nat} {X D seq ack : Nat} {m : Mo} (h : Ll Mp x V X D m seq ack y) (hb : Below w.heap.size w x) : Ll Mp w V X D m seq ack y := ⟨h.lm.base hb, h.at_, Nat.le_trans hb.size h.le⟩
def openMo : Mo := ⟨⟨3, 1, 0, 0, []⟩, zeroB, false, false, 0, 0, 0⟩
theorem take_open : takeMo (newMo 3) ⟨3, 1, 1, 0, 0, []⟩ = (openMo, ⟨3, 4, 1, 0, 0, []⟩, true) := rfl
theorem fits_open : Fr.Fits ⟨3, 1, 1, 0, 0, []⟩ := ⟨by decide, by decide, by decide, by decide, by decide⟩

set_option maxRecDepth 20000 in
set_option maxHeartbeats 3200000 in
theorem opened_on (MC : ModCond Mp) (x : World) : Calls Try.prog 30 #[] x fun e y => ∃ D X, e = .returned (.pointer (some ⟨X, 0, none⟩)) ∧ Ll Mp x [] X D openMo 0 0 y ∧ x.heap.size ≤ X := by
  have HMC := Lib.hid MC
  clear MC
  go_enter Try.func30, Try.ntmps30
  go_wp2_with fail
  refine (HMC.out.newL (w := x) (Below.refl _ _) (a := 3) (by decide)).mono ?_
  rintro e x1 ⟨D, rfl, h1, -⟩
  have H1 := Lib.hid h1
  clear h1
  go_wp2_with fail
  refine (HMC.out.takeL (f := ⟨3, 1, 1, 0, 0, []⟩) (A := none) (c := 0) (g := 0) H1.out (Holds.nil _ _ _) (.inl rfl) fits_open (by decide) (by decide) (by decide)).mono ?_
  rintro e x2 ⟨A1, c1, rfl, -, h2, -⟩
  rw [take_open] at h2 ⊢
  simp only at h2 ⊢
  have H2 := Lib.hid h2
  clear h2 H1
  go_upto_region 5 with fail
  have hb3 := new_below x2 (.cells (mfc ⟨3, 4, 1, 0, 0, []⟩ (.slice A1 0 c1)) 36)
  have hd3 := heap_alloc_new x2 (.cells (mfc ⟨3, 4, 1, 0, 0, []⟩ (.slice A1 0 c1)) 36)
  have H3 := Lib.hid (H2.out.step HMC.out hb3)
  clear hb3 H2
  generalize x2.alloc (.cells (mfc ⟨3, 4, 1, 0, 0, []⟩ (.slice A1 0 c1)) 36) = x3 at *
  generalize x2.heap.size = Y at *
  have e1 : x3.cell? ⟨Y, 1, none⟩ = some (.int .u8 4) := by simp [World.cell?, hd3]
  clear hd3
  have hb4 := new_below x3 (.cells (lnc D 0 0) 77)
  have H4 : Hid (Ll Mp x [] x3.heap.size D openMo 0 0 (x3.alloc (.cells (lnc D 0 0) 77))) := Lib.hid ⟨H3.out.more HMC.out hb4 (by simp), heap_alloc_new x3 _, H3.out.below.size⟩
  clear hb4
  go_wp2
  go_ret
  exact ⟨D, _, rfl, H4.out, H4.out.le⟩

theorem Holds.same {x y : World} {g : Nat} {A : Option Addr} {l : List UInt8} (h : Holds x g A (bcs l)) (hb : l.length ≠ 0 → y.heap[g]? = x.heap[g]?) : Holds y g A (bcs l) := by
  intro hp
  obtain ⟨h1, o, rfl, h2⟩ := h hp
  rw [bcs_length] at hp
  have h3 := hb (by omega)
  refine ⟨?_, o, rfl, fun j v hv => (World.cell?_of_block h3).trans (h2 j v hv)⟩
  rw [Array.getElem?_eq_getElem h1] at h3
  exact (Array.getElem?_eq_some_iff.1 h3).1
theorem Lm.put {w x : World} {V : List Nat} {D X i : Nat} {m : Mo} {T : TypeId} {cs : Array Value} {v : Value} (MC : ModCond Mp) (h : Lm Mp w V D m x) (hX : X ∈ V) (hw : w.heap.size ≤ X) (ha : x.heap[X]? = some (.cells cs T (0, 0))) :
    Lm Mp w V D m (x.setCell ⟨X, i, none⟩ v) ∧ (x.setCell ⟨X, i, none⟩ v).heap[X]? = some (.cells (cs.setIfInBounds i v) T (0, 0)) ∧ Ch [X] x (x.setCell ⟨X, i, none⟩ v) := by
  have hc : Ch [X] x (x.setCell ⟨X, i, none⟩ v) := (Ch.refl [X] x).setCell (p := ⟨X, i, none⟩) (fun _ => by simp) _
  exact ⟨h.off MC hc hX hw, heap_setCell_same x X i cs T v ha, hc⟩
/-- The line while it asks: the frame in Z. -/
structure Ask (Mp : World → List Nat → Nat → Mo → Prop) (w : World) (V : List Nat) (X D Z : Nat) (m : Mo) (seq ack : Nat) (F : Fr) (A : Option Addr) (c g : Nat) (y : World) : Prop where
  lm : Lm Mp w (Z :: X :: V) D m y
  z : y.heap[Z]? = some (.cells (mfc F (.slice A F.b.length c)) 36 (0, 0))
  x : y.heap[X]? = some (.cells (lnc D seq ack) 77 (0, 0))
  h : Holds y g A (bcs F.b)
  gv : F.b.length = 0 ∨ g < w.heap.size ∨ g ∈ V
  le : w.heap.size ≤ X
  ne : X ≠ Z
  lz : w.heap.size ≤ Z
  nv : Z ∉ V ∧ X ∉ V
theorem Ask.step {w x y : World} {V : List Nat} {X D Z seq ack c g : Nat} {m : Mo} {F : Fr} {A : Option Addr} (MC : ModCond Mp) (h : Ask Mp w V X D Z m seq ack F A c g x) (hb : Below x.heap.size x y) : Ask Mp w V X D Z m seq ack F A c g y :=
  ⟨h.lm.step MC hb, (hb.block Z (Array.getElem?_eq_some_iff.1 h.z).1).trans h.z, (hb.block X (Array.getElem?_eq_some_iff.1 h.x).1).trans h.x, h.h.same (fun hl => hb.block g (h.h (by rw [bcs_length]; omega)).1), h.gv, h.le, h.ne, h.lz, h.nv⟩
theorem Ask.cells {w x : World} {V : List Nat} {X D Z seq ack c g : Nat} {m : Mo} {F : Fr} {A : Option Addr} (h : Ask Mp w V X D Z m seq ack F A c g x) : x.cell? ⟨X, 0, none⟩ = some (.pointer (some ⟨D, 0, none⟩)) ∧ x.cell? ⟨X, 1, none⟩ = some (.int .u8 (seq : Int)) ∧ x.cell? ⟨X, 2, none⟩ = some (.int .u8 (ack : Int)) := by
  have := h.x
  refine ⟨?_, ?_, ?_⟩ <;> simp [World.cell?, this]
theorem Ask.fcells {w x : World} {V : List Nat} {X D Z seq ack c g : Nat} {m : Mo} {F : Fr} {A : Option Addr} (h : Ask Mp w V X D Z m seq ack F A c g x) : x.cell? ⟨Z, 0, none⟩ = some (.int .u8 (F.a : Int)) ∧ x.cell? ⟨Z, 1, none⟩ = some (.int .u8 (F.k : Int)) ∧ x.cell? ⟨Z, 2, none⟩ = some (.int .u8 (F.s : Int)) ∧
    x.cell? ⟨Z, 3, none⟩ = some (.int .u8 (F.q : Int)) ∧ x.cell? ⟨Z, 4, none⟩ = some (.int .u8 (F.c : Int)) ∧ x.cell? ⟨Z, 5, none⟩ = some (.slice A F.b.length c) := by
  have := h.z
  refine ⟨?_, ?_, ?_, ?_, ?_, ?_⟩ <;> simp [World.cell?, this]
/-- The answer is there. -/
structure Ans (Mp : World → List Nat → Nat → Mo → Prop) (w : World) (V : List Nat) (X D Y : Nat) (m : Mo) (seq ack : Nat) (F : Fr) (A : Option Addr) (c : Nat) (u : World) : Prop where
  l : Ll Mp w V X D m seq ack u
  at_ : u.heap[Y]? = some (.cells (mfc F (.slice A F.b.length c)) 36 (0, 0))
  own : u.ownsRow 0 5 1 (.slice A F.b.length c) F.b.length (bcs F.b)
theorem Ans.step {w x y : World} {V : List Nat} {X D Y seq ack c : Nat} {m : Mo} {F : Fr} {A : Option Addr} (MC : ModCond Mp) (h : Ans Mp w V X D Y m seq ack F A c x) (hb : Below x.heap.size x y) : Ans Mp w V X D Y m seq ack F A c y :=
  ⟨h.l.step MC hb, (hb.block Y (Array.getElem?_eq_some_iff.1 h.at_).1).trans h.at_, own_ft (B := 0) (T := []) h.own (Ft.of_below hb) (by simp)⟩
theorem Ans.fcells {w x : World} {V : List Nat} {X D Y seq ack c : Nat} {m : Mo} {F : Fr} {A : Option Addr} (h : Ans Mp w V X D Y m seq ack F A c x) : x.cell? ⟨Y, 3, none⟩ = some (.int .u8 (F.q : Int)) ∧ x.cell? ⟨Y, 5, none⟩ = some (.slice A F.b.length c) := by
  have := h.at_
  refine ⟨?_, ?_⟩ <;> simp [World.cell?, this]
theorem ch_setRow (y : World) (Y : Nat) (cs : Array Value) : Ch [Y] y (y.setRow Y cs) :=
  ⟨rfl, rfl, rfl, by simp, fun k _ hk => setRow_other y Y k cs (by simpa using hk)⟩
/-- The answer is laid into a block that is there. -/
theorem ans_of {w y : World} {V V2 : List Nat} {X D Y seq ack c1 : Nat} {m' : Mo} {R : Fr} {A1 : Option Addr} {cs : Array Value} (MC : ModCond Mp) (h1 : Lm Mp w V2 D m' y) (hV2 : ∀ k ∈ X :: V, k ∈ V2) (hY : Y ∈ V2) (hw : w.heap.size ≤ Y)
    (hX : y.heap[X]? = some (.cells (lnc D seq ack) 77 (0, 0))) (hle : w.heap.size ≤ X) (hXY : X ≠ Y) (hy : y.heap[Y]? = some (.cells cs 36 (0, 0))) (ho : y.ownsRow 0 5 1 (.slice A1 R.b.length c1) R.b.length (bcs R.b)) :
    Ans Mp w V X D Y m' seq ack R A1 c1 (y.setRow Y (mfc R (.slice A1 R.b.length c1))) ∧ Ch [Y] y (y.setRow Y (mfc R (.slice A1 R.b.length c1))) := by
  have hc := ch_setRow y Y (mfc R (.slice A1 R.b.length c1))
  refine ⟨⟨⟨(h1.off MC hc hY hw).less hV2, (hc.block X (Array.getElem?_eq_some_iff.1 hX).1 (by simpa using hXY)).trans hX, hle⟩, setRow_heap y Y cs _ _ _ hy, ?_⟩, hc⟩
  refine ⟨ho.1, ?_⟩
  rcases ho.2 with hn | ⟨g, cap, cur, hv, hb, hh, r⟩
  · exact .inl hn
  · refine .inr ⟨g, cap, cur, hv, hb, (hc.block g (Array.getElem?_eq_some_iff.1 hh).1 ?_).trans hh, r⟩
    simp
    rintro rfl
    rw [hy] at hh
    injection hh with hh
    injection hh with _ hh
    cases hh
theorem liF_fits {m : Mo} {seq ack : Nat} (hs : seq ≤ 1) (ha : ack ≤ 1) (b : List UInt8) : (liF ⟨m, seq, ack⟩ b).Fits := by
  unfold liF
  split
  · exact ⟨by show 3 < 256; omega, by show 3 < 256; omega, by show 1 < 256; omega, by show 0 < 256; omega, by show ack < 256; omega⟩
  · exact ⟨by show 3 < 256; omega, by show 2 < 256; omega, by show 1 < 256; omega, by show seq < 256; omega, by show ack < 256; omega⟩
theorem liF_b (m : Mo) (seq ack : Nat) (b : List UInt8) : (liF ⟨m, seq, ack⟩ b).b = b := by
  unfold liF
  split
  · rename_i h; exact (List.eq_nil_of_length_eq_zero h).symm
  · rfl
theorem str_own {w : World} {B n c : Nat} {A : Option Addr} {l : List UInt8} (h : w.ownsRow B 5 1 (.slice A n c) n (bcs l)) (hn : l.length = n) : (convert 34 9 (.slice A n c)).run Try.prog w = .ok (.string ⟨l.toArray⟩) w := by
  refine convert_own ⟨h.1, ?_⟩ hn
  rcases h.2 with hh | ⟨g, cap, cur, q1, q2, q3⟩
  · exact .inl hh
  · exact .inr ⟨g, cap, cur, q1, Nat.zero_le _, q3⟩

abbrev zfr : Array Value := #[.int .u8 0, .int .u8 0, .int .u8 0, .int .u8 0, .int .u8 0, .slice none 0 0]
theorem mframe_size : (Try.prog.info? 36).map (·.size) = some 6 := by kernel_rfl
theorem s_line {y : World} {X D seq ack : Nat} (h : y.heap[X]? = some (.cells (lnc D seq ack) 77 (0, 0))) : y.cell? ⟨X, 0, none⟩ = some (.pointer (some ⟨D, 0, none⟩)) := by simp [World.cell?, h]
theorem s_frame {y : World} {Z : Nat} {F : Fr} {V : Value} (h : y.heap[Z]? = some (.cells (mfc F V) 36 (0, 0))) : y.cell? ⟨Z, 0, none⟩ = some (.int .u8 (F.a : Int)) ∧ y.cell? ⟨Z, 1, none⟩ = some (.int .u8 (F.k : Int)) ∧ y.cell? ⟨Z, 2, none⟩ = some (.int .u8 (F.s : Int)) ∧ y.cell? ⟨Z, 3, none⟩ = some (.int .u8 (F.q : Int)) ∧
    y.cell? ⟨Z, 4, none⟩ = some (.int .u8 (F.c : Int)) ∧ y.cell? ⟨Z, 5, none⟩ = some V := by
  refine ⟨?_, ?_, ?_, ?_, ?_, ?_⟩ <;> simp [World.cell?, h]
set_option maxRecDepth 20000 in
set_option maxHeartbeats 6400000 in
theorem tells_on (MC : ModCond Mp) {w x : World} {V : List Nat} {X D seq ack g n c : Nat} {m : Mo} {A : Option Addr} {b : List UInt8} (h : Ll Mp w V X D m seq ack x) (hXV : X ∉ V) (hs : seq ≤ 1) (ha : ack ≤ 1) (hh : Holds x g A (bcs b)) (hg : b.length = 0 ∨ g < w.heap.size ∨ g ∈ V)
    (hn : b.length = n) (hc : n ≤ c) (hm : c ≤ 9223372036854775807) (hl : n ≤ 1000) :
    Calls Try.prog 31 #[.pointer (some ⟨X, 0, none⟩), .slice A n c] x fun e y => e = .returned (.string ⟨(tellsLi ⟨m, seq, ack⟩ b).2.toArray⟩) ∧ Ll Mp w V X D (tellsLi ⟨m, seq, ack⟩ b).1.m (tellsLi ⟨m, seq, ack⟩ b).1.seq (tellsLi ⟨m, seq, ack⟩ b).1.ack y ∧ Vs V x y := by
  have HMC := Lib.hid MC
  have HN := Lib.hid hn
  have HLV := Lib.hid h.lm.vs
  have H0 := Lib.hid h
  have c2 := h.cells.2.2
  have HH := Lib.hid hh
  have HG := Lib.hid hg
  have HXV := Lib.hid hXV
  clear h hn hh hg MC hXV
  go_enter Try.func31, Try.ntmps31
  go_upto_if 15 with fail
  have hb1 := new_below x (.cells (mfc ⟨3, 3, 1, 0, ack, []⟩ (.slice none 0 0)) 36)
  have hd1 := heap_alloc_new x (.cells (mfc ⟨3, 3, 1, 0, ack, []⟩ (.slice none 0 0)) 36)
  have H1 : Hid (Lm Mp w (x.heap.size :: X :: V) D m (x.alloc (.cells (mfc ⟨3, 3, 1, 0, ack, []⟩ (.slice none 0 0)) 36))) := Lib.hid (H0.out.lm.more HMC.out hb1 (by simp))
  have HX1 : Hid ((x.alloc (.cells (mfc ⟨3, 3, 1, 0, ack, []⟩ (.slice none 0 0)) 36)).heap[X]? = some (.cells (lnc D seq ack) 77 (0, 0))) := Lib.hid ((hb1.block X (Array.getElem?_eq_some_iff.1 H0.out.at_).1).trans H0.out.at_)
  have HV1 : Hid (Vs V x (x.alloc (.cells (mfc ⟨3, 3, 1, 0, ack, []⟩ (.slice none 0 0)) 36))) := Lib.hid (Vs.of_below hb1 (fun k hk => HLV.out k (List.mem_cons_of_mem _ hk)))
  have HH1 : Hid (Holds (x.alloc (.cells (mfc ⟨3, 3, 1, 0, ack, []⟩ (.slice none 0 0)) 36)) g A (bcs b)) := Lib.hid (HH.out.same (fun hl => hb1.block g (HH.out (by rw [bcs_length]; omega)).1))
  have HZX : Hid (X ≠ x.heap.size ∧ w.heap.size ≤ x.heap.size ∧ (∀ k ∈ V, k < x.heap.size) ∧ w.heap.size ≤ X) := Lib.hid ⟨by have := (Array.getElem?_eq_some_iff.1 H0.out.at_).1; omega, H0.out.lm.below.size, fun k hk => HLV.out k (List.mem_cons_of_mem _ hk), H0.out.le⟩
  have HD1 := Lib.hid hd1
  clear hb1 hd1 c2 HH H0 HLV
  generalize x.alloc (.cells (mfc ⟨3, 3, 1, 0, ack, []⟩ (.slice none 0 0)) 36) = x1 at *
  generalize x.heap.size = Z at *
  have HFB := Lib.hid (liF_b m seq ack b)
  have HFF := Lib.hid (liF_fits (m := m) hs ha b)
  have HX2 : Hid (∀ y, Vs V x1 y → Holds x1 g A (bcs b) → Below w.heap.size w y → (b.length ≠ 0 → y.heap[g]? = x1.heap[g]?)) := by
    intro y hv _ hbl hlb
    rcases HG.out with hg | hg | hg
    · exact absurd hg hlb
    · rw [hbl.block g hg, H1.out.below.block g hg]
    · exact hv.block g hg
  go_cut [] (fun y => ∃ A' c', Hid (Ask Mp w V X D Z m (if b.length = 0 then seq else 1 - seq) ack (liF ⟨m, seq, ack⟩ b) A' c' g y ∧ (liF ⟨m, seq, ack⟩ b).b.length ≤ c' ∧ c' ≤ 9223372036854775807) ∧ Hid (Vs V x1 y))
  case first =>
    by_cases h0 : n = 0
    · subst h0
      have hb0 : b = [] := List.eq_nil_of_length_eq_zero HN.out
      subst hb0
      have HA : Hid (Ask Mp w V X D Z m seq ack ⟨3, 3, 1, 0, ack, []⟩ none 0 g x1) := Lib.hid ⟨H1.out, HD1.out, HX1.out, (by show Holds x1 g none []; exact Holds.nil _ _ _), .inl rfl, HZX.out.2.2.2, HZX.out.1, HZX.out.2.1, ⟨fun hv => by have := HZX.out.2.2.1 Z hv; omega, HXV.out⟩⟩
      have HVV : Hid (Vs V x1 x1) := Lib.hid ⟨rfl, rfl, rfl, Nat.le_refl _, fun _ _ => rfl⟩
      clear HG HH1 H1 HD1 HX1 HFB HFF HX2
      go_wp2
      go_meet
      case rel => exact ⟨none, 0, ⟨HA.out, Nat.zero_le _, by omega⟩, HVV⟩
    · have hn1 : (0 : Int) < (n : Int) := by omega
      have hn2 : 0 < n := by omega
      have HB0 : Hid (b.length ≠ 0) := Lib.hid (by rw [HN.out]; exact h0)
      obtain ⟨p1, p2, p3⟩ := H1.out.put (i := 1) (v := .int .u8 2) HMC.out (List.mem_cons_self ..) HZX.out.2.1 HD1.out
      obtain ⟨p4, p5, p6⟩ := p1.put (i := 3) (v := .int .u8 (seq : Int)) HMC.out (List.mem_cons_self ..) HZX.out.2.1 p2
      obtain ⟨p7, p8, p9⟩ := p4.put (i := 5) (v := .slice A n c) HMC.out (List.mem_cons_self ..) HZX.out.2.1 p5
      have hch := (p3.trans p6).trans p9
      have hxx := (hch.block X (Array.getElem?_eq_some_iff.1 HX1.out).1 (by simp; exact HZX.out.1)).trans HX1.out
      obtain ⟨r1, r2, r3⟩ := p7.put (i := 1) (v := .int .u8 ((1 - seq : Nat) : Int)) HMC.out (List.mem_cons_of_mem _ (List.mem_cons_self ..)) HZX.out.2.2.2 hxx
      have hzz := (r3.block Z (Array.getElem?_eq_some_iff.1 p8).1 (by simp; exact fun e => HZX.out.1 e.symm)).trans p8
      have HVV : Hid (Vs V x1 (((((x1.setCell ⟨Z, 1, none⟩ (.int .u8 2)).setCell ⟨Z, 3, none⟩ (.int .u8 (seq : Int))).setCell ⟨Z, 5, none⟩ (.slice A n c))).setCell ⟨X, 1, none⟩ (.int .u8 ((1 - seq : Nat) : Int)))) :=
        Lib.hid ((Vs.of_ch hch (fun k hk => H1.out.vs k (List.mem_cons_of_mem _ (List.mem_cons_of_mem _ hk))) (fun hv => by have := HZX.out.2.2.1 Z hv; omega)).trans (Vs.of_ch r3 (fun k hk => p7.vs k (List.mem_cons_of_mem _ (List.mem_cons_of_mem _ hk))) HXV.out))
      have HA : Hid (Ask Mp w V X D Z m (1 - seq) ack ⟨3, 2, 1, seq, ack, b⟩ A c g (((((x1.setCell ⟨Z, 1, none⟩ (.int .u8 2)).setCell ⟨Z, 3, none⟩ (.int .u8 (seq : Int))).setCell ⟨Z, 5, none⟩ (.slice A n c))).setCell ⟨X, 1, none⟩ (.int .u8 ((1 - seq : Nat) : Int)))) := by
        refine Lib.hid ⟨r1, ?_, ?_, HH1.out.same (HX2.out _ HVV.out HH1.out r1.below), HG.out, HZX.out.2.2.2, HZX.out.1, HZX.out.2.1, ⟨fun hv => by have := HZX.out.2.2.1 Z hv; omega, HXV.out⟩⟩
        · rw [hzz]
          show some (Obj.cells _ _ _) = some (.cells (mfc ⟨3, 2, 1, seq, ack, b⟩ (.slice A b.length c)) _ _)
          rw [HN.out]
          simp
        · rw [r2]
          simp
      have HEQ : Hid (liF ⟨m, seq, ack⟩ b = ⟨3, 2, 1, seq, ack, b⟩) := Lib.hid (by unfold liF; rw [if_neg HB0.out])
      have e1 : x1.cell? ⟨X, 1, none⟩ = some (.int .u8 (seq : Int)) := by have := HX1.out; simp [World.cell?, this]
      have fX : x1.frozen? ⟨X, 1, none⟩ = false := by have := HX1.out; simp [World.frozen?, this]
      have fZ1 : x1.frozen? ⟨Z, 1, none⟩ = false := by have := HD1.out; simp [World.frozen?, this]
      have fZ3 : x1.frozen? ⟨Z, 3, none⟩ = false := by have := HD1.out; simp [World.frozen?, this]
      have fZ5 : x1.frozen? ⟨Z, 5, none⟩ = false := by have := HD1.out; simp [World.frozen?, this]
      have z1 : x1.cell? ⟨Z, 1, none⟩ = some (.int .u8 3) := by have := HD1.out; simp [World.cell?, this]
      have z3 : x1.cell? ⟨Z, 3, none⟩ = some (.int .u8 0) := by have := HD1.out; simp [World.cell?, this]
      have z5 : x1.cell? ⟨Z, 5, none⟩ = some (.slice none 0 0) := by have := HD1.out; simp [World.cell?, this]
      have ne1 : ¬ X = Z := HZX.out.1
      have ne2 : ¬ Z = X := fun e => HZX.out.1 e.symm
      obtain ⟨s2, hs2⟩ : ∃ s2, 1 - seq = s2 := ⟨_, rfl⟩
      have hse : (1 : Int) - (seq : Int) = (s2 : Int) := by omega
      rw [hs2] at HVV HA
      have HS2 := Lib.hid hs2
      clear p1 p2 p3 p4 p5 p6 p7 p8 p9 hch hxx r1 r2 r3 hzz HG HH1 H1 HD1 HX1 HFB HFF HX2 hs2
      go_wp2
      go_meet
      case rel => exact ⟨A, c, ⟨by rw [if_neg HB0.out, HS2.out, HEQ.out]; exact HA.out, by rw [HEQ.out]; show b.length ≤ c; rw [HN.out]; exact hc, hm⟩, HVV⟩
  case rest =>
    clear H1 HD1 HX1 HH1 HX2
    obtain ⟨A', c', HA, HVV⟩ := hcut
    rename World => x2
    have HTL : Hid (∀ r, takeMo m (liF ⟨m, seq, ack⟩ b) = r → tellsLi ⟨m, seq, ack⟩ b = if r.2.2 = false ∨ r.2.1.b.length = 0 ∨ r.2.1.q ≠ ack then (⟨r.1, if b.length = 0 then seq else 1 - seq, ack⟩, []) else (⟨r.1, if b.length = 0 then seq else 1 - seq, 1 - ack⟩, r.2.1.b)) := by
      intro r hr
      unfold tellsLi
      rw [hr]
    have HLN : Hid ((liF ⟨m, seq, ack⟩ b).b.length ≤ 1000) := by show _ ≤ _; rw [HFB.out, HN.out]; exact hl
    obtain ⟨r, hr⟩ : ∃ r, takeMo m (liF ⟨m, seq, ack⟩ b) = r := ⟨_, rfl⟩
    have HRR := Lib.hid hr
    have HTT := Lib.hid (HTL.out r hr)
    generalize liF ⟨m, seq, ack⟩ b = F at *
    generalize (if b.length = 0 then seq else 1 - seq) = sq at *
    clear HTL hr HFB HG
    go_upto_region 7 with fail
    go_cut [6, 7] (fun av okv y => ∃ Y A1 c1, av = .pointer (some ⟨Y, 0, none⟩) ∧ okv = .bool r.2.2 ∧ Hid (Ans Mp w V X D Y r.1 sq ack r.2.1 A1 c1 y) ∧ Hid (Vs V x1 y))
    case first =>
      have hd0 := drew_below x2
      have HA1 := Lib.hid (HA.out.1.step HMC.out hd0)
      have HV1 : Hid (Vs V x1 x2.drew) := Lib.hid (HVV.out.trans (Vs.of_below hd0 (fun k hk => HA.out.1.lm.vs k (List.mem_cons_of_mem _ (List.mem_cons_of_mem _ hk)))))
      have HCC := Lib.hid HA.out.2
      clear hd0 HA HVV
      refine region_tree (.take 0 (.take 1 (.take 2 (.take 3 (.take 4 (.two 5 (.take 6 (.take 7 (.take 8 (.one 9 (.one 10 (.take 11 .done)))))) 9 (.one 5 (.take 6 (.take 7 (.take 8 (.one 10 (.take 11 .done))))))))))))
        (fun z => z.cell? ⟨X, 0, none⟩ = some (.pointer (some ⟨D, 0, none⟩)) ∧ (z.cell? ⟨Z, 0, none⟩ = some (.int .u8 (F.a : Int)) ∧ z.cell? ⟨Z, 1, none⟩ = some (.int .u8 (F.k : Int)) ∧ z.cell? ⟨Z, 2, none⟩ = some (.int .u8 (F.s : Int)) ∧ z.cell? ⟨Z, 3, none⟩ = some (.int .u8 (F.q : Int)) ∧ z.cell? ⟨Z, 4, none⟩ = some (.int .u8 (F.c : Int)) ∧ z.cell? ⟨Z, 5, none⟩ = some (.slice A' F.b.length c')))
        (by kernel_rfl) (by kernel_rfl) (by kernel_rfl) (by kernel_rfl) ⟨s_line HA1.out.x, s_frame HA1.out.z⟩ ?_
      generalize x2.drew = y1 at *
      iterate 5 (refine Tree.take (v := ?_) rfl (by rfl) ?_ ?_; rotate_left 1; (focus (intro x hx; go_simp <;> (first | with_reducible rfl | rw [if_pos (by omega)]))); simp only [Act.put, List.setIfInBounds_toArray, List.set_cons_zero, List.set_cons_succ])
      refine Tree.two rfl rfl (fun K hK => ?_) (fun K hK => ?_)
      · go_simp
        refine (HMC.out.takeL HA1.out.lm HA1.out.h (HA1.out.gv.imp id (Or.imp id (fun h => List.mem_cons_of_mem _ (List.mem_cons_of_mem _ h)))) HFF.out HCC.out.1 HCC.out.2 HLN.out).mono ?_
        rintro e y2 ⟨A1, c1, rfl, ho, h1, hv⟩
        rw [HRR.out] at ho h1 ⊢
        have HX2 := Lib.hid ((hv.block X (by simp)).trans HA1.out.x)
        have HZ2 := Lib.hid ((hv.block Z (by simp)).trans HA1.out.z)
        have hb3 := new_below y2 (.cells zfr 36)
        have H3 := Lib.hid (h1.more HMC.out hb3 (by simp))
        have HX3 := Lib.hid ((hb3.block X (Array.getElem?_eq_some_iff.1 HX2.out).1).trans HX2.out)
        have HZ3 := Lib.hid ((hb3.block Z (Array.getElem?_eq_some_iff.1 HZ2.out).1).trans HZ2.out)
        have HY := Lib.hid (heap_alloc_new y2 (.cells zfr 36))
        have HO3 := Lib.hid (own_zero (own_ft (B := 0) (T := []) ho (Ft.of_below hb3) (by simp)))
        have HW3 : Hid (w.heap.size ≤ y2.heap.size ∧ X < y2.heap.size ∧ Z < y2.heap.size ∧ ∀ k ∈ V, k < y2.heap.size) := Lib.hid ⟨h1.below.size, h1.vs X (by simp), h1.vs Z (by simp), fun k hk => h1.vs k (by simp [hk])⟩
        have HV3 : Hid (Vs V x1 (y2.alloc (.cells zfr 36))) := Lib.hid (HV1.out.trans ((hv.less (fun k hk => by simp [hk])).trans (Vs.of_below hb3 HW3.out.2.2.2)))
        refine hK.out _ _ _ (fun x hx => hx) ⟨s_line HX2.out, s_frame HZ2.out⟩ ?_
        clear hK K ho h1 hv hb3 HA1 HV1
        iterate 3 (refine Tree.take (v := ?_) rfl (by rfl) ?_ ?_; rotate_left 1; (focus (intro x hx; go_simp <;> (first | with_reducible rfl | rw [if_pos (by omega)]))); simp only [Act.put, List.setIfInBounds_toArray, List.set_cons_zero, List.set_cons_succ])
        refine Tree.one rfl (fun K hK => ?_)
        go_simp
        refine hK.out _ _ _ (fun x hx => hx) ⟨s_line HX3.out, s_frame HZ3.out⟩ ?_
        clear hK K HX2 HZ2
        generalize y2.alloc (.cells zfr 36) = y3 at *
        generalize y2.heap.size = Y at *
        obtain ⟨q1, q2⟩ := ans_of HMC.out H3.out (V := V) (fun k hk => by simp at hk ⊢; rcases hk with rfl | hk <;> simp [*]) (List.mem_cons_self ..) HW3.out.1 HX3.out HZX.out.2.2.2 (by have := HW3.out.2.1; omega) HY.out HO3.out
        have HA5 := Lib.hid q1
        have HZ5 := Lib.hid ((q2.block Z (Array.getElem?_eq_some_iff.1 HZ3.out).1 (by simp; have := HW3.out.2.2.1; omega)).trans HZ3.out)
        have HV5 := Lib.hid (HV3.out.trans (Vs.of_ch q2 (fun k hk => H3.out.vs k (by simp [hk])) (fun hk => by have := HW3.out.2.2.2 Y hk; omega)))
        clear q1 q2
        refine Tree.one rfl (fun K hK => ?_)
        rw [if_pos (by rfl)]
        refine wp_store_row _ _ _ rfl Y (mfc r.2.1 (.slice A1 r.2.1.b.length c1)) rfl rfl 36 zfr HY.out mframe_size rfl (by simp [Value.oneCell']) ?_
        simp only [Act.put]
        refine hK.out _ _ _ (fun x hx => hx) ⟨s_line HA5.out.l.at_, s_frame HZ5.out⟩ ?_
        clear hK K
        iterate 1 (refine Tree.take (v := ?_) rfl (by rfl) ?_ ?_; rotate_left 1; (focus (intro x hx; go_simp <;> (first | with_reducible rfl | rw [if_pos (by omega)]))); simp only [Act.put, List.setIfInBounds_toArray, List.set_cons_zero, List.set_cons_succ])
        refine Tree.done ?_
        go_wp2_with fail
        go_meet
        case rel => exact ⟨Y, A1, c1, rfl, rfl, HA5, HV5⟩
      · go_simp
        have hb2 := new_below y1 (.cells zfr 36)
        have H2 := Lib.hid (HA1.out.lm.more HMC.out hb2 (by simp))
        have HX2 := Lib.hid ((hb2.block X (Array.getElem?_eq_some_iff.1 HA1.out.x).1).trans HA1.out.x)
        have HZ2 := Lib.hid ((hb2.block Z (Array.getElem?_eq_some_iff.1 HA1.out.z).1).trans HA1.out.z)
        have HH2 := Lib.hid (HA1.out.h.same (fun hl => hb2.block g (HA1.out.h (by rw [bcs_length]; omega)).1))
        have HY2 := Lib.hid (heap_alloc_new y1 (.cells zfr 36))
        have HW3 : Hid (w.heap.size ≤ y1.heap.size ∧ X < y1.heap.size ∧ Z < y1.heap.size ∧ ∀ k ∈ V, k < y1.heap.size) := Lib.hid ⟨HA1.out.lm.below.size, HA1.out.lm.vs X (by simp), HA1.out.lm.vs Z (by simp), fun k hk => HA1.out.lm.vs k (by simp [hk])⟩
        have HV2 : Hid (Vs V x1 (y1.alloc (.cells zfr 36))) := Lib.hid (HV1.out.trans (Vs.of_below hb2 HW3.out.2.2.2))
        have HGV := Lib.hid HA1.out.gv
        refine hK.out _ _ _ (fun x hx => hx) ⟨s_line HX2.out, s_frame HZ2.out⟩ ?_
        clear hK K hb2 HA1 HV1
        generalize y1.alloc (.cells zfr 36) = y2 at *
        generalize y1.heap.size = Y at *
        refine Tree.one rfl (fun K hK => ?_)
        go_simp
        refine (HMC.out.takeL H2.out HH2.out (HGV.out.imp id (Or.imp id (fun h => List.mem_cons_of_mem _ (List.mem_cons_of_mem _ (List.mem_cons_of_mem _ h))))) HFF.out HCC.out.1 HCC.out.2 HLN.out).mono ?_
        rintro e y3 ⟨A1, c1, rfl, ho, h1, hv⟩
        rw [HRR.out] at ho h1 ⊢
        have H3 := Lib.hid h1
        have HX3 := Lib.hid ((hv.block X (by simp)).trans HX2.out)
        have HZ3 := Lib.hid ((hv.block Z (by simp)).trans HZ2.out)
        have HY := Lib.hid ((hv.block Y (by simp)).trans HY2.out)
        have HO3 := Lib.hid (own_zero ho)
        have HV3 : Hid (Vs V x1 y3) := Lib.hid (HV2.out.trans (hv.less (fun k hk => by simp [hk])))
        refine hK.out _ _ _ (fun x hx => hx) ⟨s_line HX3.out, s_frame HZ3.out⟩ ?_
        clear hK K ho h1 hv HX2 HZ2 HY2 HV2 HGV HH2 H2
        iterate 3 (refine Tree.take (v := ?_) rfl (by rfl) ?_ ?_; rotate_left 1; (focus (intro x hx; go_simp <;> (first | with_reducible rfl | rw [if_pos (by omega)]))); simp only [Act.put, List.setIfInBounds_toArray, List.set_cons_zero, List.set_cons_succ])
        obtain ⟨q1, q2⟩ := ans_of HMC.out H3.out (V := V) (fun k hk => by simp at hk ⊢; rcases hk with rfl | hk <;> simp [*]) (List.mem_cons_self ..) HW3.out.1 HX3.out HZX.out.2.2.2 (by have := HW3.out.2.1; omega) HY.out HO3.out
        have HA5 := Lib.hid q1
        have HZ5 := Lib.hid ((q2.block Z (Array.getElem?_eq_some_iff.1 HZ3.out).1 (by simp; have := HW3.out.2.2.1; omega)).trans HZ3.out)
        have HV5 := Lib.hid (HV3.out.trans (Vs.of_ch q2 (fun k hk => H3.out.vs k (by simp [hk])) (fun hk => by have := HW3.out.2.2.2 Y hk; omega)))
        clear q1 q2
        refine Tree.one rfl (fun K hK => ?_)
        rw [if_pos (by rfl)]
        refine wp_store_row _ _ _ rfl Y (mfc r.2.1 (.slice A1 r.2.1.b.length c1)) rfl rfl 36 zfr HY.out mframe_size rfl (by simp [Value.oneCell']) ?_
        simp only [Act.put]
        refine hK.out _ _ _ (fun x hx => hx) ⟨s_line HA5.out.l.at_, s_frame HZ5.out⟩ ?_
        clear hK K
        iterate 1 (refine Tree.take (v := ?_) rfl (by rfl) ?_ ?_; rotate_left 1; (focus (intro x hx; go_simp <;> (first | with_reducible rfl | rw [if_pos (by omega)]))); simp only [Act.put, List.setIfInBounds_toArray, List.set_cons_zero, List.set_cons_succ])
        refine Tree.done ?_
        go_wp2_with fail
        go_meet
        case rel => exact ⟨Y, A1, c1, rfl, rfl, HA5, HV5⟩
    case rest =>
      clear HA HVV
      obtain ⟨Y, A1, c1, rfl, rfl, HA, HVV⟩ := hcut
      rename World => x3
      have HV0 := Lib.hid (HV1.out.trans HVV.out)
      clear HRR HFF HLN HVV HV1
      obtain ⟨m', R, ok⟩ := r
      simp only at HA HTT ⊢
      have c2 := HA.out.l.cells.2.2
      have f3 := HA.out.fcells.1
      have f5 := HA.out.fcells.2
      have HRB := Lib.hid HA.out.own
      go_upto_region 8 with fail
      cases ok with
      | false =>
        have HT : Hid (tellsLi ⟨m, seq, ack⟩ b = (⟨m', sq, ack⟩, [])) := Lib.hid (HTT.out.trans (if_pos (.inl rfl)))
        have hd0 := drew_below x3
        have HA2 := Lib.hid (HA.out.step HMC.out hd0)
        have HV2 := Lib.hid (HV0.out.trans (Vs.of_below hd0 (fun k hk => HA.out.l.lm.vs k (List.mem_cons_of_mem _ hk))))
        refine region_plan [(true, 0), (true, 1), (true, 2), (true, 3), (true, 4), (true, 5), (true, 6), (true, 7), (true, 8), (true, 9), (true, 10), (true, 11), (true, 12), (true, 13), (true, 14), (true, 15), (true, 16)] (fun _ => True) (by kernel_rfl) (by kernel_rfl) (by kernel_rfl) rfl trivial ?_
        clear c2 f3 f5 hd0 HA HV0 HRB
        generalize x3.drew = x4 at *
        iterate 17 (first | (refine Plan.take (v := ?_) rfl (by rfl) ?_ ?_; rotate_left 1; (focus (intro x hx; go_simp <;> (first | with_reducible rfl | rw [if_pos (by omega)]))); simp only [Act.put, List.setIfInBounds_toArray, List.set_cons_zero, List.set_cons_succ]) | (refine Plan.skip rfl (by rfl) ?_; simp only [Act.put, List.setIfInBounds_toArray, List.set_cons_zero, List.set_cons_succ]))
        refine Plan.done ?_
        go_wp2
        go_ret
        rw [HT.out]
        exact ⟨rfl, HA2.out.l, HV2.out⟩
      | true =>
        by_cases hb0 : R.b.length = 0
        · have HT : Hid (tellsLi ⟨m, seq, ack⟩ b = (⟨m', sq, ack⟩, [])) := Lib.hid (HTT.out.trans (if_pos (.inr (.inl hb0))))
          rw [hb0] at f5
          have hd0 := drew_below x3
          have HA2 := Lib.hid (HA.out.step HMC.out hd0)
          have HV2 := Lib.hid (HV0.out.trans (Vs.of_below hd0 (fun k hk => HA.out.l.lm.vs k (List.mem_cons_of_mem _ hk))))
          refine region_plan [(true, 0), (true, 1), (true, 2), (true, 3), (true, 4), (true, 5), (true, 6), (true, 7), (true, 8), (true, 9), (true, 10), (true, 11), (true, 12), (true, 13), (true, 14), (true, 15), (true, 16)] (fun z => z.cell? ⟨Y, 5, none⟩ = some (.slice A1 0 c1)) (by kernel_rfl) (by kernel_rfl) (by kernel_rfl) rfl f5 ?_
          clear c2 f3 f5 hd0 HA HV0 HRB hb0
          generalize x3.drew = x4 at *
          iterate 17 (first | (refine Plan.take (v := ?_) rfl (by rfl) ?_ ?_; rotate_left 1; (focus (intro x hx; go_simp <;> (first | with_reducible rfl | rw [if_pos (by omega)]))); simp only [Act.put, List.setIfInBounds_toArray, List.set_cons_zero, List.set_cons_succ]) | (refine Plan.skip rfl (by rfl) ?_; simp only [Act.put, List.setIfInBounds_toArray, List.set_cons_zero, List.set_cons_succ]))
          refine Plan.done ?_
          go_wp2
          go_ret
          rw [HT.out]
          exact ⟨rfl, HA2.out.l, HV2.out⟩
        · obtain ⟨rl, hrl⟩ : ∃ rl, R.b.length = rl := ⟨_, rfl⟩
          have HRL := Lib.hid hrl
          rw [hrl] at f5 hb0
          have hb1 : ((rl : Int) == 0) = false := by simp; omega
          by_cases hq : R.q = ack
          · have HIF : Hid (¬ ((true : Bool) = false ∨ R.b.length = 0 ∨ R.q ≠ ack)) := Lib.hid (by rw [hrl]; rintro (h | h | h); cases h; exact hb0 h; exact h hq)
            have HT : Hid (tellsLi ⟨m, seq, ack⟩ b = (⟨m', sq, 1 - ack⟩, R.b)) := Lib.hid (HTT.out.trans (if_neg HIF.out))
            rw [hq] at f3
            have hd0 := drew_below x3
            have HA2 := Lib.hid (HA.out.step HMC.out hd0)
            have HV2 := Lib.hid (HV0.out.trans (Vs.of_below hd0 (fun k hk => HA.out.l.lm.vs k (List.mem_cons_of_mem _ hk))))
            refine region_plan [(true, 0), (true, 1), (true, 2), (true, 3), (true, 4), (true, 5), (true, 6), (true, 7), (true, 8), (true, 9), (true, 10), (true, 11), (true, 12), (true, 13), (true, 14), (true, 15), (true, 16)] (fun z => z.cell? ⟨Y, 5, none⟩ = some (.slice A1 rl c1) ∧ z.cell? ⟨Y, 3, none⟩ = some (.int .u8 (ack : Int)) ∧ z.cell? ⟨X, 2, none⟩ = some (.int .u8 (ack : Int))) (by kernel_rfl) (by kernel_rfl) (by kernel_rfl) rfl ⟨f5, f3, c2⟩ ?_
            clear c2 f3 f5 hd0 HA HV0 HRB HIF hq hrl
            generalize x3.drew = x4 at *
            iterate 17 (first | (refine Plan.take (v := ?_) rfl (by rfl) ?_ ?_; rotate_left 1; (focus (intro x hx; go_simp <;> (first | with_reducible rfl | rw [if_pos (by omega)]))); simp only [Act.put, List.setIfInBounds_toArray, List.set_cons_zero, List.set_cons_succ]) | (refine Plan.skip rfl (by rfl) ?_; simp only [Act.put, List.setIfInBounds_toArray, List.set_cons_zero, List.set_cons_succ]))
            refine Plan.done ?_
            have c2 := HA2.out.l.cells.2.2
            have z2 := HA2.out.l.fz 2
            have f5 := HA2.out.fcells.2
            rw [HRL.out] at f5
            obtain ⟨p1, p2, p3⟩ := HA2.out.l.lm.put (i := 2) (v := .int .u8 ((1 - ack : Nat) : Int)) HMC.out (List.mem_cons_self ..) HZX.out.2.2.2 HA2.out.l.at_
            have hYX : Y ≠ X := by
              rintro rfl
              have h1 := HA2.out.l.at_
              rw [HA2.out.at_] at h1
              injection h1 with h1
              injection h1 with _ h1
              cases h1
            have HL3 : Hid (Ll Mp w V X D m' sq (1 - ack) (x4.setCell ⟨X, 2, none⟩ (.int .u8 ((1 - ack : Nat) : Int)))) := Lib.hid ⟨p1, by rw [p2]; simp, HZX.out.2.2.2⟩
            have HV3 := Lib.hid (HV2.out.trans (Vs.of_ch p3 (fun k hk => HA2.out.l.lm.vs k (List.mem_cons_of_mem _ hk)) HXV.out))
            have hown : (x4.setCell ⟨X, 2, none⟩ (.int .u8 ((1 - ack : Nat) : Int))).ownsRow 0 5 1 (.slice A1 R.b.length c1) R.b.length (bcs R.b) := by
              have ho := HA2.out.own
              refine ⟨ho.1, ?_⟩
              rcases ho.2 with hn | ⟨g9, cap, cur, hv, hb, hh, rr⟩
              · exact .inl hn
              · refine .inr ⟨g9, cap, cur, hv, hb, (p3.block g9 (Array.getElem?_eq_some_iff.1 hh).1 ?_).trans hh, rr⟩
                simp
                rintro rfl
                rw [HA2.out.l.at_] at hh
                injection hh with hh
                injection hh with _ hh
                cases hh
            have hcv := str_own hown rfl
            rw [HRL.out] at hcv
            obtain ⟨a2, ha2⟩ : ∃ a2, 1 - ack = a2 := ⟨_, rfl⟩
            have hae : (1 : Int) - (ack : Int) = (a2 : Int) := by omega
            rw [ha2] at HL3 HV3 hcv HT
            have ne1 : ¬ X = Y := fun e => hYX e.symm
            clear p1 p2 p3 hown ha2
            go_wp2
            go_ret
            rw [HT.out]
            exact ⟨rfl, HL3.out, HV3.out⟩
          · have hqq : ((R.q : Int) == (ack : Int)) = false := by simp; omega
            have HT : Hid (tellsLi ⟨m, seq, ack⟩ b = (⟨m', sq, ack⟩, [])) := Lib.hid (HTT.out.trans (if_pos (.inr (.inr hq))))
            have hd0 := drew_below x3
            have HA2 := Lib.hid (HA.out.step HMC.out hd0)
            have HV2 := Lib.hid (HV0.out.trans (Vs.of_below hd0 (fun k hk => HA.out.l.lm.vs k (List.mem_cons_of_mem _ hk))))
            refine region_plan [(true, 0), (true, 1), (true, 2), (true, 3), (true, 4), (true, 5), (true, 6), (true, 7), (true, 8), (true, 9), (true, 10), (true, 11), (true, 12), (true, 13), (true, 14), (true, 15), (true, 16)] (fun z => z.cell? ⟨Y, 5, none⟩ = some (.slice A1 rl c1) ∧ z.cell? ⟨Y, 3, none⟩ = some (.int .u8 (R.q : Int)) ∧ z.cell? ⟨X, 2, none⟩ = some (.int .u8 (ack : Int))) (by kernel_rfl) (by kernel_rfl) (by kernel_rfl) rfl ⟨f5, f3, c2⟩ ?_
            clear c2 f3 f5 hd0 HA HV0 HRB hrl hq
            generalize x3.drew = x4 at *
            iterate 17 (first | (refine Plan.take (v := ?_) rfl (by rfl) ?_ ?_; rotate_left 1; (focus (intro x hx; go_simp <;> (first | with_reducible rfl | rw [if_pos (by omega)]))); simp only [Act.put, List.setIfInBounds_toArray, List.set_cons_zero, List.set_cons_succ]) | (refine Plan.skip rfl (by rfl) ?_; simp only [Act.put, List.setIfInBounds_toArray, List.set_cons_zero, List.set_cons_succ]))
            refine Plan.done ?_
            go_wp2
            go_ret
            rw [HT.out]
            exact ⟨rfl, HA2.out.l, HV2.out⟩

/-! ### A press -/
theorem pressMo_with (m : Mo) (g : Bs) (b : Nat) : pressMo { m with f := g } b = { pressMo m b with f := g } := by
  unfold pressMo
  split
  · rfl
  · split
    · rfl
    · split <;> rfl
/-- The module while a button is held, behind k ticks. -/
def heldMo (m : Mo) (b now k : Nat) : Mo := if k ≤ 3 then { m with f := oneB b ⟨true, (now : Int), false⟩ } else { pressMo m b with f := oneB b ⟨true, (now : Int), true⟩ }
theorem heldMo_set {m : Mo} {b now : Nat} (hb : b ≤ 3) (hf : m.f = zeroB) : setMo m (b : Int) true (now : Int) = heldMo m b now 0 := by
  unfold setMo heldMo
  rw [hf, ← oneB_zero b, one_set hb, if_pos (by omega)]
  rfl
theorem heldMo_tick {m : Mo} {b now k : Nat} (hb : b ≤ 3) (hk : k ≤ 3) : tickMo (heldMo m b now k) ((now : Int) + (k : Int)) = heldMo m b now (k + 1) := by
  unfold heldMo
  rw [if_pos hk]
  by_cases h3 : k = 3
  · subst h3
    rw [if_neg (by omega)]
    have hd : (⟨true, (now : Int), false⟩ : Bt).due ((now : Int) + ((3 : Nat) : Int)) = true := by unfold Bt.due; simp
    rw [tick_one hb rfl hd]
    have ht : (⟨true, (now : Int), false⟩ : Bt).tell ((now : Int) + ((3 : Nat) : Int)) = ⟨true, (now : Int), true⟩ := by unfold Bt.tell; rw [hd]; rfl
    rw [ht]
    exact pressMo_with m _ b
  · rw [if_pos (by omega)]
    have hd : (⟨true, (now : Int), false⟩ : Bt).due ((now : Int) + (k : Int)) = false := by unfold Bt.due; simp; omega
    exact tick_none hb rfl hd
theorem heldMo_up {m : Mo} {b now : Nat} (hb : b ≤ 3) (hf : m.f = zeroB) (t : Int) : setMo (heldMo m b now 4) (b : Int) false t = pressMo m b := by
  unfold setMo heldMo
  rw [if_neg (by omega), one_set hb]
  show ({ pressMo m b with f := oneB b ((⟨true, (now : Int), true⟩ : Bt).set false t) } : Mo) = pressMo m b
  have h1 : oneB b ((⟨true, (now : Int), true⟩ : Bt).set false t) = zeroB := oneB_zero b
  rw [h1, ← hf, ← pressMo_f m b]
theorem zero_tick {m : Mo} (hf : m.f = zeroB) (t : Int) : tickMo m t = m := by
  have h := tick_none (m := m) (now := t) (q := 0) (b := bt0) (by omega) (by rw [hf, oneB_zero]) rfl
  rw [h, oneB_zero, ← hf]
set_option maxRecDepth 20000 in
set_option maxHeartbeats 6400000 in
theorem press_on (MC : ModCond Mp) {w x : World} {V : List Nat} {X D seq ack b now : Nat} {m : Mo} (h : Ll Mp w V X D m seq ack x) (hb : b ≤ 3) (hf : m.f = zeroB) (hn : now ≤ 1000000) :
    Calls Try.prog 32 #[.pointer (some ⟨X, 0, none⟩), .int .i64 (b : Int), .int .i64 (now : Int)] x fun e y => e = .returned (.int .i64 ((now + 10 : Nat) : Int)) ∧ Ll Mp w V X D (pressMo m b) seq ack y ∧ Vs V x y := by
  have HMC := Lib.hid MC
  have HF := Lib.hid hf
  have H0 := Lib.hid h
  have c0 := h.cells.1
  clear h MC hf
  go_enter Try.func32, Try.ntmps32
  go_wp2_with fail
  refine (HMC.out.setL H0.out.lm (b := (b : Int)) (d := true) (now := (now : Int)) (by unfold BI; omega) (by unfold BI; omega)).mono ?_
  rintro e x1 ⟨rfl, h1, hv⟩
  rw [heldMo_set hb HF.out] at h1
  have H1 := Lib.hid (H0.out.turn h1 hv)
  have HV1 := Lib.hid (hv.less (fun k hk => List.mem_cons_of_mem _ hk))
  clear h1 hv H0 c0
  go_wp2
  go_loopw [7] (fun kv wr => ∃ (k : Nat), k ≤ 4 ∧ kv = .int .i64 k ∧ Hid (Ll Mp w V X D (heldMo m b now k) seq ack wr) ∧ Hid (Vs V x wr)) (fun kv _ => 4 - (intOf kv).toNat)
  case atStart => exact ⟨0, Nat.zero_le _, rfl, H1, HV1⟩
  case round =>
    clear H1 HV1 x1
    obtain ⟨k, hk, rfl, H, HV⟩ := hrel
    rename World => x1
    by_cases hk3 : k ≤ 3
    · have hk3' : (k : Int) ≤ 3 := by omega
      have c0 := H.out.cells.1
      go_wp2_with fail
      refine (HMC.out.tickL H.out.lm (now := (now : Int) + (k : Int)) (by unfold BI; omega)).mono ?_
      rintro e x2 ⟨rfl, h1, hv⟩
      rw [heldMo_tick hb hk3] at h1
      have H2 := Lib.hid (H.out.turn h1 hv)
      have HV2 := Lib.hid (HV.out.trans (hv.less (fun k hk => List.mem_cons_of_mem _ hk)))
      clear h1 hv H HV c0
      go_wp2
      go_roundw
      case rel => exact ⟨k + 1, by omega, by go_num, H2, HV2⟩
      case measure => simp [intOf]; omega
    · have hk4 : k = 4 := by omega
      subst hk4
      have c0 := H.out.cells.1
      go_wp2_with fail
      refine (HMC.out.setL H.out.lm (b := (b : Int)) (d := false) (now := (now : Int) + 3 + 1) (by unfold BI; omega) (by unfold BI; omega)).mono ?_
      rintro e x2 ⟨rfl, h1, hv⟩
      rw [heldMo_up hb HF.out] at h1
      have H2 := Lib.hid (H.out.turn h1 hv)
      have HV2 := Lib.hid (HV.out.trans (hv.less (fun k hk => List.mem_cons_of_mem _ hk)))
      have HF2 : Hid ((pressMo m b).f = zeroB) := Lib.hid ((pressMo_f m b).trans HF.out)
      clear h1 hv H HV c0 hk3 hk
      go_wp2
      go_loopw [8] (fun kv wr => ∃ (k : Nat), k ≤ 4 ∧ kv = .int .i64 k ∧ Hid (Ll Mp w V X D (pressMo m b) seq ack wr) ∧ Hid (Vs V x wr)) (fun kv _ => 4 - (intOf kv).toNat)
      case atStart => exact ⟨0, Nat.zero_le _, rfl, H2, HV2⟩
      case round =>
        clear H2 HV2 x2
        obtain ⟨k, hk, rfl, H, HV⟩ := hrel
        rename World => x2
        by_cases hk3 : k ≤ 3
        · have hk3' : (k : Int) ≤ 3 := by omega
          have c0 := H.out.cells.1
          go_wp2_with fail
          refine (HMC.out.tickL H.out.lm (now := (now : Int) + 3 + 1 + (k : Int)) (by unfold BI; omega)).mono ?_
          rintro e x3 ⟨rfl, h1, hv⟩
          rw [zero_tick HF2.out] at h1
          have H2 := Lib.hid (H.out.turn h1 hv)
          have HV2 := Lib.hid (HV.out.trans (hv.less (fun k hk => List.mem_cons_of_mem _ hk)))
          clear h1 hv H HV c0
          go_wp2
          go_roundw
          case rel => exact ⟨k + 1, by omega, by go_num, H2, HV2⟩
          case measure => simp [intOf]; omega
        · have hk4 : k = 4 := by omega
          subst hk4
          go_wp2
          go_ret
          exact ⟨by go_num, H.out, HV.out⟩
end Go.Proofs.Ytdcnmbglbopgdaa
