/-
  lamplightlaw01.OctetsJoins answers true, and turns nothing that was there: the walk.
-/
import Derived.Test.YtlaoheflblkgaaaParts
namespace Go.Proofs.Ytlaoheflblkgaaa
set_option linter.unusedVariables false
set_option linter.unusedSimpArgs false
open Go.RowKit

theorem PartsAt.take {w : World} {P : Option Addr} {ps : List (List UInt8)} (h : PartsAt w P ps) (a : Nat) : PartsAt w P (ps.take a) := by
  intro k l hk
  rw [List.getElem?_take] at hk
  split at hk
  · exact h k l hk
  · cases hk
theorem PartsAt.drop {w : World} {P : Option Addr} {ps : List (List UInt8)} (h : PartsAt w P ps) (a cap : Nat) (hc : ps.length ≤ cap) : PartsAt w (if cap = a then P else P.map (·.add a)) (ps.drop a) := by
  intro k l hk
  rw [List.getElem?_drop] at hk
  have hlt : a + k < ps.length := by
    rcases Nat.lt_or_ge (a + k) ps.length with h | h
    · exact h
    · rw [List.getElem?_eq_none h] at hk; cases hk
  obtain ⟨b, o, g, A, c, hP, hcell, hh⟩ := h (a + k) l hk
  refine ⟨b, o + a, g, A, c, ?_, by rw [Nat.add_assoc]; exact hcell, hh⟩
  rw [if_neg (by omega), hP]
  simp only [Option.map_some]
  rw [addr_add]

/-- The parts that are joined at last: two copies, and nil between them. -/
theorem parts_three (w : World) (a b : Nat) (A B : List UInt8) (n1 n2 : Nat) (h1 : A.length = n1) (h2 : B.length = n2) (ha : Row w a A) (hb : Row w b B) :
    PartsAt (w.alloc (.cells #[.slice (some ⟨a, 0, none⟩) n1 n1, .slice none 0 0, .slice (some ⟨b, 0, none⟩) n2 n2] 22)) (some ⟨w.heap.size, 0, none⟩) [A, [], B] := by
  subst h1 h2
  have hch := (Ch.refl [] w).alloc (.cells #[.slice (some ⟨a, 0, none⟩) A.length A.length, .slice none 0 0, .slice (some ⟨b, 0, none⟩) B.length B.length] 22)
  intro k l hk
  match k, hk with
  | 0, hk =>
    simp at hk
    subst hk
    exact ⟨w.heap.size, 0, a, _, _, rfl, (cell_alloc_new _ _ _ _ _ rfl).trans rfl, ha.holds.keep hch (by simp)⟩
  | 1, hk =>
    simp at hk
    subst hk
    exact ⟨w.heap.size, 0, 0, none, 0, rfl, (cell_alloc_new _ _ _ _ _ rfl).trans rfl, Holds.nil _ _ _⟩
  | 2, hk =>
    simp at hk
    subst hk
    exact ⟨w.heap.size, 0, b, _, _, rfl, (cell_alloc_new _ _ _ _ _ rfl).trans rfl, hb.holds.keep hch (by simp)⟩

/-- Bytes of one part. -/
theorem wbytes_one (W g gs : Nat) (A : Option Addr) (n c : Nat) (E l : List UInt8) (w : World) (hw : Wtr w W g E) (hh : Holds w gs A (bcs l)) (hn : l.length = n) (hne : 0 < l.length → gs ≠ W ∧ gs ≠ g) (hl : E.length + l.length ≤ 1099511627776) :
    Calls Try.prog 27 #[.pointer (some ⟨W, 0, none⟩), .slice (some ⟨w.heap.size, 0, none⟩) 1 1] (w.alloc (.cells #[.slice A n c] 22)) (WtPost w W g (E ++ l)) := by
  subst hn
  have hlt := hw.lt
  have hch : Ch [] w (w.alloc (.cells #[.slice A l.length c] 22)) := (Ch.refl [] w).alloc _
  have hp : PartsOk (w.alloc (.cells #[.slice A l.length c] 22)) (fun x => x = w.heap.size ∨ (x = gs ∧ 0 < l.length)) (some ⟨w.heap.size, 0, none⟩) [l] := by
    intro k l' hk
    match k, hk with
    | 0, hk =>
      simp at hk
      subst hk
      exact ⟨w.heap.size, 0, gs, A, c, rfl, .inl rfl, by simp, fun h => .inr ⟨rfl, h⟩, hh.keep hch (by simp)⟩
  have hf : [l].flatten = l := by simp
  have hj := wbytes_any W g (some ⟨w.heap.size, 0, none⟩) 1 [l] E _ _ (hw.keep hch (by simp) (by simp)) hp
    (by rintro (h | ⟨h, h'⟩)
        · omega
        · exact (hne h').1 h.symm)
    (by rintro (h | ⟨h, h'⟩)
        · omega
        · exact (hne h').2 h.symm) (by simp) (by rw [hf]; exact hl)
  rw [hf] at hj
  refine hj.mono ?_
  rintro e w' ⟨he, g', hg', hw', hc'⟩
  exact ⟨he, g', hg'.imp id (fun h => by simp at h; omega), hw', (hch.mono (by simp)).trans hc'⟩

/-- What is there while the law goes on: the parts (blocks from B0 to B1), the writer, the joined bytes, those that are written over. -/
structure JSt (w wr : World) (B0 B1 : Nat) (V : Option Addr) (cs : List (List UInt8)) (W g : Nat) (E : List UInt8) (Ga Gb : Nat) (F : List UInt8) : Prop where
  parts : PartsOk wr (fun x => B0 ≤ x ∧ x < B1) V cs
  wt : Wtr wr W g E
  rb : Row wr Gb F
  ra : ∃ l : List UInt8, l.length = F.length ∧ Row wr Ga l
  low : w.heap.size ≤ B0 ∧ B1 ≤ Ga ∧ B1 ≤ Gb ∧ B1 ≤ W ∧ B1 ≤ g ∧ B0 ≤ B1
  ne : Ga ≠ Gb ∧ Ga ≠ W ∧ Ga ≠ g ∧ Gb ≠ W ∧ Gb ≠ g
  below : Below w.heap.size w wr

theorem JSt.write {w wr w' : World} {B0 B1 : Nat} {V : Option Addr} {cs : List (List UInt8)} {W g g' : Nat} {E E' : List UInt8} {Ga Gb : Nat} {F : List UInt8} (h : JSt w wr B0 B1 V cs W g E Ga Gb F)
    (hg' : g' = g ∨ wr.heap.size ≤ g') (hw' : Wtr w' W g' E') (hc : Ch [W, g] wr w') : JSt w w' B0 B1 V cs W g' E' Ga Gb F := by
  have hl := h.low
  have hn := h.ne
  obtain ⟨l, hll, hra⟩ := h.ra
  have hga := hra.lt
  have hgb := h.rb.lt
  have hlt := h.wt.lt
  refine ⟨h.parts.keep hc (by simp; omega), hw', h.rb.keep hc (by simp; omega), ⟨l, hll, hra.keep hc (by simp; omega)⟩, by omega, by omega, h.below.trans (hc.belowAt (by simp; omega) h.below.size)⟩
theorem JSt.store {w wr : World} {B0 B1 : Nat} {V : Option Addr} {cs : List (List UInt8)} {W g : Nat} {E : List UInt8} {Ga Gb : Nat} {F : List UInt8} (h : JSt w wr B0 B1 V cs W g E Ga Gb F) (k : Nat) (b : UInt8) :
    JSt w (wr.setCell ⟨Ga, k, none⟩ (.int .u8 (b.toNat : Int))) B0 B1 V cs W g E Ga Gb F := by
  have hl := h.low
  have hn := h.ne
  obtain ⟨l, hll, hra⟩ := h.ra
  have hc : Ch [Ga] wr (wr.setCell ⟨Ga, k, none⟩ (.int .u8 (b.toNat : Int))) := (Ch.refl [Ga] wr).setCell (by simp) _
  refine ⟨h.parts.keep hc (by simp; omega), h.wt.keep hc (by simp; omega) (by simp; omega), h.rb.keep hc (by simp; omega), ⟨l.set k b, by simp [hll], ?_⟩, hl, hn, h.below.trans (hc.belowAt (by simp; omega) h.below.size)⟩
  unfold Row at hra ⊢
  simp only [World.setCell, Array.getElem?_modify, hra]
  simp [bcs, List.map_set]
theorem JSt.cell {w wr : World} {B0 B1 : Nat} {V : Option Addr} {cs : List (List UInt8)} {W g : Nat} {E : List UInt8} {Ga Gb : Nat} {F : List UInt8} (h : JSt w wr B0 B1 V cs W g E Ga Gb F) (k : Nat) (hk : k < F.length) :
    (∃ v : UInt8, wr.cell? ⟨Ga, k, none⟩ = some (.int .u8 (v.toNat : Int))) ∧ wr.frozen? ⟨Ga, k, none⟩ = false := by
  obtain ⟨l, hll, hra⟩ := h.ra
  refine ⟨⟨_, hra.cell k (by omega)⟩, ?_⟩
  unfold Row at hra
  simp [World.frozen?, hra]

set_option maxHeartbeats 4000000 in
set_option maxRecDepth 100000 in
theorem joins_walk (P : Option Addr) (n c : Nat) (ps : List (List UInt8)) (x : Int) (w : World) (h : InParts w P ps) (hn : ps.length = n) (hnm : n ≤ 9223372036854775807) :
    Calls Try.prog 6 #[.slice P n c, .int .i64 x] w fun e w' => e = .returned (.bool true) ∧ Below w.heap.size w w' := by
  have HP := Lib.hid h
  have HN := Lib.hid hn
  clear h hn
  go_enter Try.func6, Try.ntmps6
  go_wp2_with fail
  refine (shown_any w).mono ?_
  rintro e w1 ⟨rfl, hb1⟩
  have HP1 : Hid (InParts w1 P ps) := HP.out.below hb1
  go_wp2_with fail
  refine (parts_any P n c ps w1 HP1.out HN.out hnm).mono ?_
  rintro e w2 ⟨V, cv, vs, he, ho2, hb2'⟩
  have hfl := cutp_flat ps
  have hcl := cutp_len ps
  generalize hcs : cutp ps = cs at *
  obtain ⟨F, hF⟩ : ∃ F, F = cs.flatten := ⟨_, rfl⟩
  rw [← hF] at he hfl
  obtain ⟨m, hm⟩ : ∃ m, m = cs.length := ⟨_, rfl⟩
  obtain ⟨f, hf⟩ : ∃ f, f = F.length := ⟨_, rfl⟩
  rw [← hm] at he
  subst he
  have hcap : m ≤ cv := by rw [hm]; exact own_cap ho2.outer
  have hcvm : cv ≤ 9223372036854775807 := by have := own_max ho2.outer; unfold maxLen at this; omega
  have hok := ho2.ok
  have hw1 : w.heap.size ≤ w1.heap.size := hb1.size
  have hw12 : w1.heap.size ≤ w2.heap.size := hb2'.size
  have hb2 : Below w.heap.size w w2 := hb1.trans (hb2'.mono hb1.size)
  have HFF := Lib.hid hF
  have HM := Lib.hid hm
  have HFL := Lib.hid hf
  have HOK := Lib.hid hok
  have HB2 := Lib.hid hb2
  have hm5 : m ≤ 5 := by omega
  have hf250 : f ≤ 250 := by omega
  obtain ⟨a, ham, hat, hat'⟩ := place_of x m
  clear hcs hF hm hf hok hb2 hb2' ho2 HP1 hb1 hcl hfl
  go_wp2_with fail
  have hj := join_parts V cv m cs w2 HOK.out.parts HM.out.symm (by omega) (by rw [← HFF.out, ← HFL.out]; omega)
  rw [← HFF.out] at hj
  refine hj.mono ?_
  rintro e w3 ⟨Ga, hGa, rfl, hra3, hb3'⟩
  rw [← HFL.out]
  have hb3 : Below w.heap.size w w3 := HB2.out.trans (hb3'.mono HB2.out.size)
  have HOK3 := Lib.hid (HOK.out.keep (Ch.of_below hb3') (by simp))
  have HRA3 := Lib.hid hra3
  have HB3 := Lib.hid hb3
  have hGal := hra3.lt
  have hw23 : w2.heap.size ≤ w3.heap.size := hb3'.size
  clear hj hra3 hb3 hb3' HOK HB2
  obtain ⟨V', hV'⟩ : ∃ V', (if cv = a then V else V.map (·.add a)) = V' := ⟨_, rfl⟩
  have haz : (0 : Int) ≤ (a : Int) := by omega
  have ham' : (a : Int) ≤ (m : Int) := by omega
  have hac : (a : Int) ≤ (cv : Int) := by omega
  have hcd := (Ch.refl [] w3).drew
  have hp1 : PartsAt w3.drew V (cs.take a) := (HOK3.out.keep hcd (by simp)).parts.take a
  have hp2 : PartsAt w3.drew V' (cs.drop a) := by
    rw [← hV']
    exact (HOK3.out.keep hcd (by simp)).parts.drop a cv (by rw [← HM.out]; exact hcap)
  have hl1 : (cs.take a).length = a := by rw [List.length_take, ← HM.out]; omega
  have hl2 : (cs.drop a).length = m - a := by rw [List.length_drop, ← HM.out]
  have hfs : (cs.take a).flatten ++ (cs.drop a).flatten = F := by rw [HFF.out, ← List.flatten_append, List.take_append_drop]
  have hfsl : (cs.take a).flatten.length + (cs.drop a).flatten.length = f := by rw [HFL.out, ← hfs, List.length_append]
  have HP1 := Lib.hid hp1
  have HP2 := Lib.hid hp2
  have HL1 := Lib.hid hl1
  have HL2 := Lib.hid hl2
  have HFS := Lib.hid hfs
  have HFSL := Lib.hid hfsl
  clear hcd hp1 hp2 hl1 hl2 hfs hfsl
  go_wp2
  refine region_plan [(true, 0), (true, 1), (true, 2), (true, 4), (true, 5), (true, 6), (false, 3), (false, 7), (false, 8), (false, 9), (true, 10)] (fun _ => True) (by kernel_rfl) (by kernel_rfl) (by kernel_rfl) rfl trivial ?_
  iterate 6 (refine Plan.take (v := ?_) rfl (by rfl) ?_ ?_; rotate_left 1; (focus (intro x hx; go_simp <;> with_reducible rfl)); simp only [Act.put, List.setIfInBounds_toArray, List.set_cons_zero, List.set_cons_succ])
  refine Plan.loud rfl (fun K hK => ?_)
  go_simp
  refine (join_parts V cv a (cs.take a) _ HP1.out HL1.out (by omega) (by have := HFSL.out; omega)).mono ?_
  rintro e w4 ⟨G1, hG1, rfl, hr4, hb4⟩
  have hp4 : PartsAt w4 V' (cs.drop a) := HP2.out.keep (Ch.of_below hb4) (by simp)
  generalize hT1 : (cs.take a).flatten = T1 at *
  have HT1 := Lib.hid hT1
  clear hT1
  refine hK.out (fun _ => True) _ _ (fun _ _ => trivial) trivial ?_
  clear hK K
  refine Plan.loud rfl (fun K hK => ?_)
  go_simp
  have hj := join_parts V' (cv - a) (m - a) (cs.drop a) w4 hp4 HL2.out (by omega) (by have := HFSL.out; omega)
  generalize hT2 : (cs.drop a).flatten = T2 at *
  have HT2 := Lib.hid hT2
  clear hT2
  refine hj.mono ?_
  rintro e w5 ⟨G2, hG2, rfl, hr5, hb5⟩
  have hr45 := hr4.keep (Ch.of_below hb5) (by simp)
  refine hK.out (fun _ => True) _ _ (fun _ _ => trivial) trivial ?_
  clear hK K hj hp4
  refine Plan.loud rfl (fun K hK => ?_)
  go_simp
  refine hK.out (fun _ => True) _ _ (fun _ _ => trivial) trivial ?_
  clear hK K
  refine Plan.loud rfl (fun K hK => ?_)
  go_simp
  have hj := join_parts _ 3 3 [T1, [], T2] _ (parts_three w5 G1 G2 T1 T2 T1.length T2.length rfl rfl hr45 hr5) rfl (by omega) (by have := HFSL.out; simp; omega)
  rw [show [T1, [], T2].flatten = F by rw [← HFS.out]; simp] at hj
  refine hj.mono ?_
  rintro e w6 ⟨Gb, hGb, rfl, hr6, hb6⟩
  rw [← HFL.out]
  have hch6 : Ch [] w3 w6 := by
    have c1 : Ch [] w3 w3.drew := (Ch.refl [] w3).drew
    have c2 : Ch [] w3 w4 := c1.join (Ch.of_below hb4) (by simp)
    have c3 : Ch [] w3 w5 := c2.join (Ch.of_below hb5) (by simp)
    exact (c3.alloc _).join (Ch.of_below hb6) (by simp)
  have hb36 : Below w.heap.size w w6 := HB3.out.trans (hch6.belowAt (by simp) HB3.out.size)
  have hGbz : w3.heap.size ≤ Gb := by
    have z4 := hb4.size
    have z5 := hb5.size
    simp at hGb z4
    omega
  refine hK.out (fun _ => True) _ _ (fun _ _ => trivial) trivial ?_
  clear hK K hj
  iterate 1 (refine Plan.take (v := ?_) rfl (by rfl) ?_ ?_; rotate_left 1; (focus (intro x hx; go_simp <;> with_reducible rfl)); simp only [Act.put, List.setIfInBounds_toArray, List.set_cons_zero, List.set_cons_succ])
  refine Plan.done ?_
  have hch7 : Ch [] w6 (w6.alloc (.cells #[.slice none 0 0] 55)) := (Ch.refl [] w6).alloc _
  have hJ : JSt w (w6.alloc (.cells #[.slice none 0 0] 55)) w1.heap.size w2.heap.size V cs w6.heap.size w6.heap.size (flat cs 0) Ga Gb F := by
    have z3 := hch6.size
    have z6 := hr6.lt
    exact ⟨(HOK3.out.keep hch6 (by simp)).keep hch7 (by simp), Wtr.new w6, hr6.keep hch7 (by simp), ⟨F, rfl, (HRA3.out.keep hch6 (by simp)).keep hch7 (by simp)⟩, by omega, by omega, hb36.alloc (by have := HB3.out.size; omega) _⟩
  have HJ := Lib.hid hJ
  clear hJ hch7 hch6 hb36 hr6 hb6 hr5 hb5 hr4 hb4 hr45 HRA3 HOK3 HB3 HP1 HP2 HT1 HT2 HL1 HL2 HFSL HFS hGbz hGb hG1 hG2
  go_wp2
  generalize w6.alloc (.cells #[.slice none 0 0] 55) = w7 at *
  generalize w6.heap.size = W at *
  generalize w1.heap.size = B0 at *
  generalize w2.heap.size = B1 at *
  go_loopw [11] (fun i wr => ∃ (k g : Nat), k ≤ m ∧ i = .int .i64 k ∧ JSt w wr B0 B1 V cs W g (flat cs k) Ga Gb F) (fun i _ => m - (intOf i).toNat)
  case atStart => exact ⟨0, W, Nat.zero_le _, rfl, HJ.out⟩
  case round =>
    obtain ⟨k, g, hk, rfl, hJ⟩ := hrel
    have HJr := Lib.hid hJ
    clear hJ HJ
    by_cases hlt : k < m
    · have hml := HM.out
      have hlt' : k < cs.length := by omega
      obtain ⟨b, o, gs, A, c', hVe, hbk, hcell, hgk, hhk⟩ := HJr.out.parts k cs[k] (List.getElem?_eq_getElem hlt')
      subst hVe
      have HSU := Lib.hid (flat_succ cs k hlt')
      have hlow := HJr.out.low
      have hne : 0 < cs[k].length → gs ≠ W ∧ gs ≠ g := fun hp => by have := hgk hp; omega
      have hsz : (flat cs k).length + cs[k].length ≤ 1099511627776 := by
        have h1 := flat_le cs (k + 1)
        rw [HSU.out, List.length_append, ← HFF.out, ← HFL.out] at h1
        omega
      have HHK := Lib.hid hhk
      have HNE := Lib.hid hne
      clear hhk hne hgk hbk hlow hml
      generalize hlk : cs[k] = lk at *
      have HLK := Lib.hid hlk
      clear hlk
      go_wp2_with fail
      refine (wbytes_one W g gs A lk.length c' (flat cs k) lk wr HJr.out.wt HHK.out rfl HNE.out hsz).mono ?_
      rintro e w8 ⟨rfl, g8, hg8, hw8, hc8⟩
      rw [← HSU.out] at hw8
      have hJ8 := HJr.out.write hg8 hw8 hc8
      clear hg8 hw8 hc8
      go_wp2
      go_roundw
      case rel => exact ⟨k + 1, g8, by omega, by go_num, hJ8⟩
      case measure => simp [intOf]; omega
    · have hkm : k = m := by omega
      subst hkm
      have hfa : flat cs k = F := by rw [HM.out, flat_all, HFF.out]
      have hJ := HJr.out
      rw [hfa] at hJ
      have HJ2 := Lib.hid hJ
      clear hJ hfa HJr
      go_wp2
      go_loopw [12] (fun i wr => ∃ j : Nat, j ≤ f ∧ i = .int .i64 j ∧ JSt w wr B0 B1 V cs W g F Ga Gb F) (fun i _ => f - (intOf i).toNat)
      case atStart => exact ⟨0, Nat.zero_le _, rfl, HJ2.out⟩
      case round =>
        obtain ⟨j, hj, rfl, hJ⟩ := hrel
        have HJr := Lib.hid hJ
        clear hJ HJ2
        by_cases hjl : j < f
        · obtain ⟨⟨v, hcell⟩, hfr⟩ := HJr.out.cell j (by rw [← HFL.out]; exact hjl)
          have hjz : (0 : Int) ≤ (j : Int) := by omega
          have hjf : (j : Int) < (f : Int) := by omega
          go_wp2
          go_roundw
          case rel => exact ⟨j + 1, by omega, by go_num, HJr.out.store j 63⟩
          case measure => simp [intOf]; omega
        · go_wp2
          go_loopw [13, 14] (fun st i wr => ∃ q : Nat, q ≤ k ∧ i = .int .i64 q ∧ st = .string ⟨(flat cs q).toArray⟩ ∧ JSt w wr B0 B1 V cs W g F Ga Gb F) (fun _ i _ => k - (intOf i).toNat)
          case atStart => exact ⟨0, Nat.zero_le _, rfl, rfl, HJr.out⟩
          case round =>
            obtain ⟨q, hq, rfl, rfl, hJ⟩ := hrel
            have HJ3 := Lib.hid hJ
            clear hJ HJr
            by_cases hql : q < k
            · have hml := HM.out
              have hlt' : q < cs.length := by omega
              obtain ⟨b, o, gs, A, c', hVe, hbk, hcell, hgk, hhk⟩ := HJ3.out.parts q cs[q] (List.getElem?_eq_getElem hlt')
              subst hVe
              have HSU := Lib.hid (flat_succ cs q hlt')
              have hsum : ¬ 9223372036854775807 < (flat cs q).length + cs[q].length := by
                have h1 := flat_le cs (q + 1)
                rw [HSU.out, List.length_append, ← HFF.out, ← HFL.out] at h1
                omega
              have hcv := convert_holds (n := cs[q].length) (c := c') hhk rfl
              clear hhk hgk hbk hml
              generalize hlk : cs[q] = lk at *
              have HLK := Lib.hid hlk
              clear hlk
              generalize hfq : flat cs q = Fq at *
              have HFQ := Lib.hid hfq
              clear hfq
              have hjn := cat_two Fq lk
              go_wp2
              go_roundw
              case rel => exact ⟨q + 1, by omega, by go_num, by rw [HSU.out], HJ3.out⟩
              case measure => simp [intOf]; omega
            · have hqk : q = k := by omega
              subst hqk
              have hfa : flat cs q = F := by rw [HM.out, flat_all, HFF.out]
              rw [hfa]
              clear hfa
              have hcb := convert_len HJ3.out.rb (n := f) HFL.out.symm
              have hFs : (F == F) = true := by simp
              have hFf : ((f : Int) == (F.length : Int)) = true := by rw [← HFL.out]; simp
              have hbs : (ByteArray.mk F.toArray).size = f := by rw [HFL.out]; rfl
              go_wp2_with fail
              have hlF : F.length ≤ 1099511627776 := by rw [← HFL.out]; omega
              refine (wdone_any W g F wr HJ3.out.wt hlF).mono ?_
              rintro e w9 ⟨G9, hG9, rfl, hr9, hb9'⟩
              have hcv9 := convert_row hr9
              have hb9 : Below w.heap.size w w9 := HJ3.out.below.trans (hb9'.mono HJ3.out.below.size)
              have HP9 := Lib.hid ((HJ3.out.parts.keep (Ch.of_below hb9') (by simp)).parts)
              clear hb9' hr9 hG9
              go_wp2_with fail
              have hj := join_parts V cv q cs w9 HP9.out HM.out.symm (by omega) (by rw [← HFF.out]; exact hlF)
              rw [← HFF.out] at hj
              refine hj.mono ?_
              rintro e w10 ⟨G10, hG10, rfl, hr10, hb10'⟩
              have hcv10 := convert_row hr10
              have hb10 : Below w.heap.size w w10 := hb9.trans (hb10'.mono hb9.size)
              clear hb10' hr10 hG10 hj hcv9 hb9
              go_wp2_with fail
              refine (join_parts none 0 0 [] w10 (fun k l hk => by simp at hk) rfl (by omega) (by simp)).mono ?_
              rintro e w11 ⟨G11, hG11, rfl, hr11, hb11'⟩
              have hb11 : Below w.heap.size w w11 := hb10.trans (hb11'.mono hb10.size)
              go_wp2
              go_ret
              exact ⟨rfl, hb11⟩

end Go.Proofs.Ytlaoheflblkgaaa
