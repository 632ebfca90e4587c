/-
  lamplightlaw11.shown, as it stands: true, under the conditions on module's calls.
-/
import Derived.Test.YtdcnmbglbopgdaaModL
import Derived.Lib.ConvBytes
import Derived.Laws.AppendOwn
namespace Go.Proofs.Ytdcnmbglbopgdaa
set_option linter.unusedVariables false
set_option linter.unusedSimpArgs false
open Go.RowKit

variable {Mp : World → List Nat → Nat → Mo → Prop}
theorem own_at {y : World} {B n c : Nat} {A : Option Addr} {l : List UInt8} (h : y.ownsRow B 5 1 (.slice A n c) n (bcs l)) (hn : 0 < n) : ∃ g, A = some ⟨g, 0, none⟩ ∧ B ≤ g ∧ g < y.heap.size ∧ Holds y g A (bcs l) ∧ n ≤ c ∧ c ≤ 9223372036854775807 := by
  rcases h.2 with ⟨_, h0⟩ | ⟨g, cap, cur, hv, h1, hh, h3, h4, h5, h6⟩
  · omega
  · injection hv with hA _ hc
    subst hA hc
    refine ⟨g, rfl, h1, (Array.getElem?_eq_some_iff.1 hh).1, own_holds (n := n) (c := c) (e := 5) ⟨h.1, .inr ⟨g, c, cur, rfl, Nat.zero_le _, hh, h3, h4, h5, h6⟩⟩ ?_, h3, by unfold maxLen at h4; omega⟩
    intro g2 hg2
    simp [Value.ownBlock] at hg2
    exact hg2.symm
theorem Ll.moreg {w x y : World} {V : List Nat} {X D seq ack g : Nat} {m : Mo} (MC : ModCond Mp) (h : Ll Mp w V X D m seq ack x) (hb : Below x.heap.size x y) (h1 : x.heap.size ≤ g) (h2 : g < y.heap.size) : Ll Mp w (g :: V) X D m seq ack y := by
  have h3 := h.step MC hb
  exact ⟨(h.lm.moreg MC hb h1 h2).less (fun k hk => by simp at hk ⊢; rcases hk with rfl | rfl | hk <;> simp [*]), h3.at_, h3.le⟩
theorem Ll.less {w x : World} {V V' : List Nat} {X D seq ack : Nat} {m : Mo} (h : Ll Mp w V X D m seq ack x) (hV : ∀ k ∈ V', k ∈ V) : Ll Mp w V' X D m seq ack x :=
  ⟨h.lm.less (fun k hk => by simp at hk ⊢; rcases hk with rfl | hk; exact .inl rfl; exact .inr (hV k hk)), h.at_, h.le⟩
theorem Ll.ne {w x : World} {V : List Nat} {X D seq ack g : Nat} {m : Mo} (h : Ll Mp w V X D m seq ack x) (hg : x.heap.size ≤ g) : X ≠ g := by have := h.lm.vs X (by simp); omega
/-- Bytes that are just made go down the line. -/
theorem say_on (MC : ModCond Mp) {w x y : World} {V : List Nat} {X D seq ack B n c : Nat} {m : Mo} {A : Option Addr} {b : List UInt8} (h : Ll Mp w V X D m seq ack x) (hXV : X ∉ V) (hs : seq ≤ 1) (ha : ack ≤ 1) (hb : Below x.heap.size x y) (ho : y.ownsRow B 5 1 (.slice A n c) n (bcs b)) (hB : x.heap.size ≤ B) (hn : b.length = n) (hn0 : 0 < n) (hl : n ≤ 1000) :
    Calls Try.prog 31 #[.pointer (some ⟨X, 0, none⟩), .slice A n c] y fun e z => e = .returned (.string ⟨(tellsLi ⟨m, seq, ack⟩ b).2.toArray⟩) ∧ Ll Mp w V X D (tellsLi ⟨m, seq, ack⟩ b).1.m (tellsLi ⟨m, seq, ack⟩ b).1.seq (tellsLi ⟨m, seq, ack⟩ b).1.ack z ∧ Vs V x z := by
  obtain ⟨g, rfl, h1, h2, h3, h4, h5⟩ := own_at ho hn0
  have h6 := h.moreg MC hb (g := g) (by omega) h2
  have hne := h.ne (g := g) (by omega)
  refine (tells_on MC h6 (by simp; exact ⟨hne, hXV⟩) hs ha h3 (.inr (.inr (by simp))) hn h4 h5 hl).mono ?_
  rintro e z ⟨rfl, h7, h8⟩
  exact ⟨rfl, h7.less (fun k hk => by simp [hk]), (Vs.of_below hb (fun k hk => h.lm.vs k (by simp [hk]))).trans (h8.less (fun k hk => by simp [hk]))⟩
theorem poll_on (MC : ModCond Mp) {w x : World} {V : List Nat} {X D seq ack : Nat} {m : Mo} (h : Ll Mp w V X D m seq ack x) (hXV : X ∉ V) (hs : seq ≤ 1) (ha : ack ≤ 1) :
    Calls Try.prog 31 #[.pointer (some ⟨X, 0, none⟩), .slice none 0 0] x fun e z => e = .returned (.string ⟨(tellsLi ⟨m, seq, ack⟩ []).2.toArray⟩) ∧ Ll Mp w V X D (tellsLi ⟨m, seq, ack⟩ []).1.m (tellsLi ⟨m, seq, ack⟩ []).1.seq (tellsLi ⟨m, seq, ack⟩ []).1.ack z ∧ Vs V x z :=
  tells_on MC h hXV hs ha (g := 0) (b := []) (n := 0) (Holds.nil _ _ _) (.inl rfl) rfl (Nat.zero_le _) (by omega) (by omega)
theorem Ll.show_on (MC : ModCond Mp) {w x : World} {V : List Nat} {X D seq ack : Nat} {m : Mo} (h : Ll Mp w V X D m seq ack x) :
    Calls Try.prog 23 #[.pointer (some ⟨D, 0, none⟩)] x fun e y => e = .returned (.agg (mdc m)) ∧ Ll Mp w V X D m seq ack y ∧ Below x.heap.size x y := by
  refine (MC.showL h.lm).mono ?_
  rintro e y ⟨rfl, _, hb⟩
  exact ⟨rfl, h.step MC hb, hb⟩
theorem Ll.more {w x y : World} {V : List Nat} {X D seq ack : Nat} {m : Mo} (MC : ModCond Mp) (h : Ll Mp w V X D m seq ack x) (hb : Below x.heap.size x y) (hy : x.heap.size < y.heap.size) : Ll Mp w (x.heap.size :: V) X D m seq ack y := h.moreg MC hb (Nat.le_refl _) hy
/-- A display that was told. -/
def Dp (y : World) (Y : Nat) (m : Mo) : Prop := y.heap[Y]? = some (.cells (mdc m) 53 (0, 0))
theorem Dp.step {x y : World} {Y : Nat} {m : Mo} (h : Dp x Y m) (hb : Below x.heap.size x y) : Dp y Y m := (hb.block Y (Array.getElem?_eq_some_iff.1 h).1).trans h
theorem Dp.vs {x y : World} {V : List Nat} {Y : Nat} {m : Mo} (h : Dp x Y m) (hv : Vs V x y) (hY : Y ∈ V) : Dp y Y m := (hv.block Y hY).trans h
theorem Dp.cells {x : World} {Y : Nat} {m : Mo} (h : Dp x Y m) : x.cell? ⟨Y, 0, none⟩ = some (.bool m.lit) ∧ x.cell? ⟨Y, 1, none⟩ = some (.bool m.lat) ∧ x.cell? ⟨Y, 2, none⟩ = some (.int .u16 (m.tok : Int)) ∧ x.cell? ⟨Y, 3, none⟩ = some (.int .u16 (m.qty : Int)) ∧ x.cell? ⟨Y, 4, none⟩ = some (.int .u16 (m.most : Int)) := by
  unfold Dp at h
  refine ⟨?_, ?_, ?_, ?_, ?_⟩ <;> simp [World.cell?, h]
/-- Bytes of a string. -/
theorem conv_bytes (x : World) (l : List UInt8) (hl : l.length ≤ 1000) : ∃ y c, (convert 9 34 (.string ⟨l.toArray⟩)).run Try.prog x = .ok (.slice (some ⟨x.heap.size, 0, none⟩) l.length c) y ∧ Below x.heap.size x y ∧ Holds y x.heap.size (some ⟨x.heap.size, 0, none⟩) (bcs l) ∧ l.length ≤ c ∧ c ≤ 9223372036854775807 ∧ x.heap.size < y.heap.size := by
  have hs : (⟨l.toArray⟩ : ByteArray).size = l.length := by simp [ByteArray.size]
  refine ⟨Lib.bytesWorld x 5 ⟨l.toArray⟩, grownCap x l.length 0 5, ?_, ?_, ?_, grownCap_ge _ _ _ _, ?_, ?_⟩
  · have := Lib.run_convert_string_bytes (P := Try.prog) x 9 34 5 ⟨l.toArray⟩ Try.underlying9 Try.underlying34 Try.underlying5
    rw [hs] at this
    exact this
  · refine ⟨?_, ?_, ?_, by rw [Lib.bytesWorld_size]; omega, fun k hk => Lib.bytesWorld_at_old x _ _ k hk⟩
    · simp [Lib.bytesWorld, World.freeze, World.alloc, World.drew, -World.alloc_eq, -World.drew_eq]
    · simp [Lib.bytesWorld, World.freeze, World.alloc, World.drew, -World.alloc_eq, -World.drew_eq]
    · simp [Lib.bytesWorld, World.freeze, World.alloc, World.drew, -World.alloc_eq, -World.drew_eq]
  · intro hp
    refine ⟨by rw [Lib.bytesWorld_size]; omega, 0, rfl, fun j u hu => ?_⟩
    have hj : j < l.length := by
      rcases Nat.lt_or_ge j l.length with h | h
      · exact h
      · rw [List.getElem?_eq_none (by rw [bcs_length]; exact h)] at hu; cases hu
    rw [bcs_get l j hj] at hu
    rw [Nat.zero_add, Lib.bytesWorld_cell x 5 ⟨l.toArray⟩ j (by rw [hs]; exact hj), ← hu]
    simp [hj]
  · have := grownCap_le_maxLen x l.length 0 5 (by unfold maxLen; omega)
    unfold maxLen at this
    omega
  · rw [Lib.bytesWorld_size]; omega
theorem field_lit (a b : Bool) (t q m : Int) (w : World) : (Instr.field 53 (.agg #[.bool a, .bool b, .int .u16 t, .int .u16 q, .int .u16 m]) 0).run Try.prog w = .ok (.bool a) w := by kernel_rfl
/-- An event that was told. -/
def Ep (y : World) (Y k t q : Nat) : Prop := y.heap[Y]? = some (.cells #[.int .u8 (k : Int), .int .u16 (t : Int), .int .u16 (q : Int)] 61 (0, 0))
theorem parse_txt {k t q : Nat} (hk : k = 1 ∨ k = 2) (ht : t < 65536) (hq : q < 65536) : parse5 (txt5 k t q) = (k, t, q, 0) := by
  have h1 : (UInt8.ofNat k).toNat = k := by simp; omega
  have h2 : (UInt8.ofNat (t / 256)).toNat = t / 256 := by simp; omega
  have h3 : (UInt8.ofNat (t % 256)).toNat = t % 256 := by simp
  have h4 : (UInt8.ofNat (q / 256)).toNat = q / 256 := by simp; omega
  have h5 : (UInt8.ofNat (q % 256)).toNat = q % 256 := by simp
  show (if (UInt8.ofNat k).toNat = 1 ∨ (UInt8.ofNat k).toNat = 2 then ((UInt8.ofNat k).toNat, (UInt8.ofNat (t / 256)).toNat * 256 + (UInt8.ofNat (t % 256)).toNat, (UInt8.ofNat (q / 256)).toNat * 256 + (UInt8.ofNat (q % 256)).toNat, (0 : Int)) else (0, 0, 0, 3)) = _
  rw [h1, if_pos hk, h2, h3, h4, h5]
  rw [show t / 256 * 256 + t % 256 = t by omega, show q / 256 * 256 + q % 256 = q by omega]
theorem txt5_cells {t q : Nat} (ht : t < 65536) (hq : q < 65536) : bcs (txt5 1 t q) = [.int .u8 1, .int .u8 ((t : Int) / 256), .int .u8 ((t : Int) % 256), .int .u8 ((q : Int) / 256), .int .u8 ((q : Int) % 256)] := by
  have h2 : (UInt8.ofNat (t / 256)).toNat = t / 256 := by simp; omega
  have h3 : (UInt8.ofNat (t % 256)).toNat = t % 256 := by simp
  have h4 : (UInt8.ofNat (q / 256)).toNat = q / 256 := by simp; omega
  have h5 : (UInt8.ofNat (q % 256)).toNat = q % 256 := by simp
  unfold txt5
  simp only [bcs, List.map_cons, List.map_nil, h2, h3, h4, h5]
  simp
theorem and3b (a : Nat) (ha : a < 256) : ∃ b : Nat, b ≤ 3 ∧ bits .and .u8 (a : Int) 3 = (b : Int) := by
  refine ⟨a % 4, by omega, ?_⟩
  have hm : (BitVec.ofInt 8 3).toNat = 2 ^ 2 - 1 := by decide
  have key : (BitVec.ofInt 8 (a : Int) &&& BitVec.ofInt 8 3).toNat = (((a : Int)) % ((2 ^ 8 : Nat) : Int)).toNat % 2 ^ 2 := by
    rw [BitVec.toNat_and, BitVec.toNat_ofInt, hm, Nat.and_two_pow_sub_one_eq_mod]
  show IntKind.u8.wrap ((BitVec.ofInt 8 (a : Int) &&& BitVec.ofInt 8 3).toNat : Nat) = _
  rw [key]
  have : IntKind.u8.wrap (((((a : Int)) % ((2 ^ 8 : Nat) : Int)).toNat % 2 ^ 2 : Nat) : Int) = (((((a : Int)) % ((2 ^ 8 : Nat) : Int)).toNat % 2 ^ 2 : Nat) : Int) % 256 := rfl
  rw [this]
  omega
/-- A light just told to a line that is open. -/
def litMo (t q : Nat) : Mo := ⟨⟨3, 1, 0, 1, []⟩, zeroB, true, false, t, q, q⟩
theorem openMo_ok : openMo.Ok := takeMo_ok (newMo_ok (a := 3) (by omega)) ⟨3, 1, 1, 0, 0, []⟩ (by show 1 < 256; omega)
theorem lia_open : LiA ⟨openMo, 0, 0⟩ [] := ⟨⟨rfl, rfl, openMo_ok⟩, Nat.zero_le _, Nat.zero_le _⟩
theorem tell_lit {t q : Nat} (ht : t < 65536) (hq : q < 65536) : tellsLi ⟨openMo, 0, 0⟩ (txt5 1 t q) = (⟨litMo t q, 1, 0⟩, []) := by
  obtain ⟨h1, h2, h3⟩ := lia_open.data (b := txt5 1 t q) (by rw [txt5_len]; omega)
  have hm : (tellsLi ⟨openMo, 0, 0⟩ (txt5 1 t q)).1.m = litMo t q := by
    rw [h2]
    unfold Mo.cmd
    rw [parse_txt (.inl rfl) ht hq]
    simp [Mo.same, openMo, Mo.light, litMo]
  have hs := h3.mi.s
  rw [hm] at hs
  have e1 : (tellsLi ⟨openMo, 0, 0⟩ (txt5 1 t q)).1.ack = 0 := by
    have := congrArg Sl.tell hs
    exact this.symm
  have e2 : (tellsLi ⟨openMo, 0, 0⟩ (txt5 1 t q)).1.seq = 1 := by
    have := congrArg Sl.nx hs
    exact this.symm
  generalize tellsLi ⟨openMo, 0, 0⟩ (txt5 1 t q) = r at *
  obtain ⟨⟨m, s, a⟩, b⟩ := r
  simp only at *
  subst hm e1 e2 h1
  rfl
theorem offerM_addr (s : Sl) (b : List UInt8) : (offerS s b).1.addr = s.addr := by
  unfold offerS
  split
  · rfl
  · split <;> rfl
theorem pressMo_addr (m : Mo) (b : Nat) : (pressMo m b).s.addr = m.s.addr := by
  unfold pressMo
  split
  · rfl
  · split
    · rfl
    · split
      · rfl
      · exact offerM_addr _ _
theorem pressMo_dark {m : Mo} (h : m.lit = false) (b : Nat) : pressMo m b = m := if_pos (.inl h)
theorem pressMo_lat {m : Mo} (h : m.lat = true) (b : Nat) : pressMo m b = m := if_pos (.inr h)
/-- What a display shows. -/
structure Sh (m : Mo) (lit lat : Bool) (t q most : Nat) : Prop where
  lit : m.lit = lit
  lat : m.lat = lat
  tok : m.tok = t
  qty : m.qty = q
  most : m.most = most
theorem Sh.mdc {m : Mo} {lit lat : Bool} {t q most : Nat} (h : Sh m lit lat t q most) : mdc m = #[.bool lit, .bool lat, .int .u16 (t : Int), .int .u16 (q : Int), .int .u16 (most : Int)] := by
  show #[Value.bool m.lit, .bool m.lat, .int .u16 (m.tok : Int), .int .u16 (m.qty : Int), .int .u16 (m.most : Int)] = _
  rw [h.lit, h.lat, h.tok, h.qty, h.most]
/-- A dark module, or one of another token, is lit. -/
theorem LiA.lightS {l : Li} {t q : Nat} (h : LiA l []) (hd : l.m.same t = false) (ht : t < 65536) (hq : q < 65536) : (tellsLi l (txt5 1 t q)).2 = [] ∧ LiA (tellsLi l (txt5 1 t q)).1 [] ∧ Sh (tellsLi l (txt5 1 t q)).1.m true false t q q := by
  obtain ⟨h1, h2, h3⟩ := h.data (b := txt5 1 t q) (by rw [txt5_len]; omega)
  refine ⟨h1, h3, ?_⟩
  rw [h2]
  have hs : ({ l.m with s := ⟨3, 1, l.ack, 1 - l.seq, []⟩ } : Mo).same t = false := hd
  unfold Mo.cmd
  rw [parse_txt (.inl rfl) ht hq]
  simp only [ne_eq, not_true, if_false, if_true, hs]
  exact ⟨rfl, rfl, rfl, rfl, rfl⟩
/-- It is lit by this token, and not latched: it is confirmed, or short. -/
theorem LiA.offer {l : Li} {t q most b : Nat} (h : LiA l []) (hs : Sh l.m true false t q most) (hb : b = 0 ∨ b = 3) : LiA ⟨pressMo l.m b, l.seq, l.ack⟩ (txt5 (if b = 0 then 1 else 2) t q) ∧ Sh (pressMo l.m b) true true t q most := by
  have hp : pressMo l.m b = { l.m with s := ⟨3, 1, l.ack, l.seq, txt5 (if b = 0 then 1 else 2) t q⟩, lat := true } := by
    unfold pressMo
    rw [if_neg (by rw [hs.lit, hs.lat]; simp), if_neg (by omega), if_neg (by omega), hs.tok, hs.qty, h.mi.s]
    have ho : offerS ⟨3, 1, l.ack, l.seq, []⟩ (txt5 (if b = 0 then 1 else 2) t q) = (⟨3, 1, l.ack, l.seq, txt5 (if b = 0 then 1 else 2) t q⟩, 0) := by
      unfold offerS
      rw [txt5_len, if_neg (by omega), if_neg (by simp)]
    rw [ho]
    simp
    exact ⟨hs.tok.symm, hs.qty.symm⟩
  rw [hp]
  have hok := h.mi.ok
  refine ⟨⟨⟨rfl, h.mi.f, ⟨⟨by show 3 < 256; omega, by show 1 < 256; omega, h.ack, h.seq, by show (txt5 _ t q).length ≤ 24; rw [txt5_len]; omega⟩, hok.f, hok.tok, hok.qty, hok.most⟩⟩, h.seq, h.ack⟩, ⟨hs.lit, rfl, hs.tok, hs.qty, hs.most⟩⟩
theorem Sh.other {m : Mo} {s : Sl} {lit lat : Bool} {t q most : Nat} (h : Sh m lit lat t q most) : Sh { m with s := s } lit lat t q most := ⟨h.lit, h.lat, h.tok, h.qty, h.most⟩
/-- One of the two: nothing pending, or what is pending was heard; polled, it tells nothing, and shows the same. -/
theorem li_poll {l : Li} {p : List UInt8} {lit lat : Bool} {t q most : Nat} (h : LiA l [] ∨ LiB l p) (hs : Sh l.m lit lat t q most) : (tellsLi l []).2 = [] ∧ LiA (tellsLi l []).1 [] ∧ Sh (tellsLi l []).1.m lit lat t q most := by
  rcases h with h | h
  · obtain ⟨h1, h2, h3, _⟩ := h.poll
    exact ⟨h1, h3 rfl, by rw [h2]; exact hs⟩
  · obtain ⟨h1, h2, h3⟩ := h.poll
    exact ⟨h1, h3, by rw [h2]; exact hs.other⟩
theorem li_bits {l : Li} {p : List UInt8} (h : LiA l [] ∨ LiB l p) : l.seq ≤ 1 ∧ l.ack ≤ 1 ∧ l.m.f = zeroB := by
  rcases h with h | h
  · exact ⟨h.seq, h.ack, h.mi.f⟩
  · exact ⟨h.seq, h.ack, h.mi.f⟩
theorem sh_open : Sh openMo false false 0 0 0 := ⟨rfl, rfl, rfl, rfl, rfl⟩
abbrev so1 : Mo := ⟨⟨3, 1, 0, 1, []⟩, zeroB, true, false, 7, 3, 3⟩
abbrev so2 : Mo := ⟨⟨3, 1, 0, 1, []⟩, zeroB, true, false, 7, 2, 3⟩
abbrev so3 : Mo := ⟨⟨3, 1, 0, 1, [1, 0, 7, 0, 2]⟩, zeroB, true, true, 7, 2, 3⟩
abbrev so5 : Mo := ⟨⟨3, 1, 1, 0, []⟩, zeroB, false, false, 0, 0, 0⟩
theorem mst1 : tellsLi ⟨openMo, 0, 0⟩ (txt5 1 7 3) = (⟨so1, 1, 0⟩, []) := rfl
theorem mst2 : pressMo so1 2 = so2 := rfl
theorem mst3 : pressMo so2 0 = so3 := rfl
theorem mst4 : tellsLi ⟨so3, 1, 0⟩ [] = (⟨so3, 1, 1⟩, [1, 0, 7, 0, 2]) := rfl
theorem mst5 : tellsLi ⟨so3, 1, 1⟩ (txt5 2 7 0) = (⟨so5, 0, 1⟩, []) := rfl
theorem sp4 : parse5 [1, 0, 7, 0, 2] = (1, 7, 2, 0) := rfl

set_option maxRecDepth 20000 in
set_option maxHeartbeats 6400000 in
theorem shown_on (MC : ModCond Mp) (w : World) : Calls Try.prog 9 #[] w fun e w' => e = .returned (.bool true) ∧ Below w.heap.size w w' := by
  have HMC := Lib.hid MC
  clear MC
  go_enter Try.func9, Try.ntmps9
  go_wp2_with fail
  refine (opened_on HMC.out w).mono ?_
  rintro e x1 ⟨D, X, rfl, h1, _⟩
  have H1 := Lib.hid h1
  clear h1
  go_wp2_with fail
  refine (HMC.out.cbytes (k := 1) (t := 7) (q := 3) (by omega) (by omega) (by omega)).mono ?_
  rintro e x2 ⟨A2, c2, rfl, ho, hb⟩
  have HO := Lib.hid ho
  have HB := Lib.hid hb
  clear ho hb
  go_wp2_with fail
  refine (say_on HMC.out H1.out (by simp) (by omega) (by omega) HB.out HO.out (Nat.le_refl _) rfl (by omega) (by omega)).mono ?_
  rintro e x3 ⟨rfl, h, -⟩
  rw [mst1] at h ⊢
  simp only at h ⊢
  have H3 := Lib.hid h
  have c0 := h.cells.1
  clear h H1 HO HB
  go_wp2_with fail
  refine (H3.out.show_on HMC.out).mono ?_
  rintro e x4 ⟨rfl, h, -⟩
  have H4 := Lib.hid h
  clear h H3 c0
  have hb5 := new_below x4 (.cells (mdc so1) 53)
  have H5 := Lib.hid (H4.out.more HMC.out hb5 (by simp))
  have HD5 : Hid (Dp (x4.alloc (.cells (mdc so1) 53)) x4.heap.size so1) := heap_alloc_new x4 _
  have HN5 : Hid (X ≠ x4.heap.size) := Lib.hid (H4.out.ne (Nat.le_refl _))
  clear hb5 H4
  go_wp2_with fail
  generalize x4.alloc (.cells (mdc so1) 53) = x5 at *
  generalize x4.heap.size = Yd at *
  refine (press_on HMC.out H5.out (b := 2) (now := 10) (by omega) rfl (by omega)).mono ?_
  rintro e x6 ⟨rfl, h, hv⟩
  rw [mst2] at h
  have H6 := Lib.hid h
  have HD6 := Lib.hid (HD5.out.vs hv (by simp))
  clear h hv H5 HD5
  go_wp2_with fail
  refine (press_on HMC.out H6.out (b := 0) (now := 20) (by omega) rfl (by omega)).mono ?_
  rintro e x7 ⟨rfl, h, hv⟩
  rw [mst3] at h
  have H7 := Lib.hid h
  have HD7 := Lib.hid (HD6.out.vs hv (by simp))
  clear h hv H6 HD6
  go_wp2_with fail
  refine (poll_on HMC.out H7.out (by simpa using HN5.out) (by omega) (by omega)).mono ?_
  rintro e x8 ⟨rfl, h, hv⟩
  rw [mst4] at h ⊢
  simp only at h ⊢
  have H8 := Lib.hid h
  have HD8 := Lib.hid (HD7.out.vs hv (by simp))
  clear h hv H7 HD7
  obtain ⟨y8, c8, hcv, hb8, hh8, hc8, hm8, hs8⟩ := conv_bytes x8 [1, 0, 7, 0, 2] (by simp)
  have H9 := Lib.hid (H8.out.step HMC.out hb8)
  have HD9 := Lib.hid (HD8.out.step hb8)
  have HH9 := Lib.hid hh8
  clear hb8 hh8 hs8 H8 HD8
  go_wp2_with fail
  refine (HMC.out.eparse HH9.out rfl hc8 hm8 (by simp)).mono ?_
  rintro e x10 ⟨rfl, hb⟩
  rw [sp4]
  simp only
  have H10 := Lib.hid (H9.out.step HMC.out hb)
  have HD10 := Lib.hid (HD9.out.step hb)
  clear hb H9 HD9 HH9 hcv
  have hb11 := new_below x10 (.cells #[.int .u8 1, .int .u16 7, .int .u16 2] 61)
  have H11 := Lib.hid (H10.out.more HMC.out hb11 (by simp))
  have HD11 := Lib.hid (HD10.out.step hb11)
  have HE11 : Hid (Ep (x10.alloc (.cells #[.int .u8 1, .int .u16 7, .int .u16 2] 61)) x10.heap.size 1 7 2) := heap_alloc_new x10 _
  have HN11 : Hid (X ≠ x10.heap.size) := Lib.hid (H10.out.ne (Nat.le_refl _))
  have c0 := H11.out.cells.1
  clear hb11 H10 HD10
  go_wp2_with fail
  generalize x10.alloc (.cells #[.int .u8 1, .int .u16 7, .int .u16 2] 61) = x11 at *
  generalize x10.heap.size = Ye at *
  refine (H11.out.show_on HMC.out).mono ?_
  rintro e x12 ⟨rfl, h, hb⟩
  have H12 := Lib.hid h
  have HD12 := Lib.hid (HD11.out.step hb)
  have HE12 : Hid (Ep x12 Ye 1 7 2) := Lib.hid ((hb.block Ye (Array.getElem?_eq_some_iff.1 HE11.out).1).trans HE11.out)
  clear h hb H11 HD11 HE11 c0
  have hb13 := new_below x12 (.cells (mdc so3) 53)
  have H13 := Lib.hid (H12.out.more HMC.out hb13 (by simp))
  have HD13 := Lib.hid (HD12.out.step hb13)
  have HE13 : Hid (Ep (x12.alloc (.cells (mdc so3) 53)) Ye 1 7 2) := Lib.hid ((hb13.block Ye (Array.getElem?_eq_some_iff.1 HE12.out).1).trans HE12.out)
  have HX13 : Hid (Dp (x12.alloc (.cells (mdc so3) 53)) x12.heap.size so3) := heap_alloc_new x12 _
  have HN13 : Hid (X ≠ x12.heap.size) := Lib.hid (H12.out.ne (Nat.le_refl _))
  clear hb13 H12 HD12 HE12
  go_wp2_with fail
  generalize x12.alloc (.cells (mdc so3) 53) = x13 at *
  generalize x12.heap.size = Yx at *
  refine (HMC.out.cbytes (k := 2) (t := 7) (q := 0) (by omega) (by omega) (by omega)).mono ?_
  rintro e x14 ⟨A14, c14, rfl, ho, hb⟩
  have HO := Lib.hid ho
  have HB := Lib.hid hb
  clear ho hb
  go_wp2_with fail
  refine (say_on HMC.out H13.out (by simp; exact ⟨HN13.out, HN11.out, HN5.out⟩) (by omega) (by omega) HB.out HO.out (Nat.le_refl _) rfl (by omega) (by omega)).mono ?_
  rintro e x15 ⟨rfl, h, hv⟩
  rw [mst5] at h
  have H15 := Lib.hid h
  have HD15 := Lib.hid (HD13.out.vs hv (by simp))
  have HX15 := Lib.hid (HX13.out.vs hv (by simp))
  have HE15 : Hid (Ep x15 Ye 1 7 2) := Lib.hid ((hv.block Ye (by simp)).trans HE13.out)
  clear h hv H13 HD13 HX13 HE13 HO HB
  obtain ⟨d0, d1, d2, d3, _⟩ := HD15.out.cells
  obtain ⟨_, v1, _, _, _⟩ := HX15.out.cells
  have ep0 : x15.cell? ⟨Ye, 0, none⟩ = some (.int .u8 1) := by have := HE15.out; unfold Ep at this; simp [World.cell?, this]
  have ep1 : x15.cell? ⟨Ye, 1, none⟩ = some (.int .u16 7) := by have := HE15.out; unfold Ep at this; simp [World.cell?, this]
  have ep2 : x15.cell? ⟨Ye, 2, none⟩ = some (.int .u16 2) := by have := HE15.out; unfold Ep at this; simp [World.cell?, this]
  have c0 := H15.out.cells.1
  simp only at d0 d1 d2 d3 v1
  go_wp2_with fail
  refine (H15.out.show_on HMC.out).mono ?_
  rintro e x16 ⟨rfl, h, -⟩
  rw [show mdc so5 = #[.bool false, .bool false, .int .u16 0, .int .u16 0, .int .u16 0] from rfl]
  have H16 := Lib.hid h
  have hfl := field_lit false false 0 0 0 x16
  clear h H15 HD15 HX15 HE15
  go_wp2
  go_ret
  exact ⟨rfl, H16.out.lm.below⟩
end Go.Proofs.Ytdcnmbglbopgdaa
