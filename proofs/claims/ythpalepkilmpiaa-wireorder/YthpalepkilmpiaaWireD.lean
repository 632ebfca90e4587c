/-
  (*wire.Wire).Put, as it landed: what it answers.
-/
import Derived.Test.YthpalepkilmpiaaWireC
import Derived.Test.YthpalepkilmpiaaFTrees
namespace Go.Proofs.Ythpalepkilmpiaa
set_option linter.unusedVariables false
set_option linter.unusedSimpArgs false
open Go.RowKit

theorem info_row : (Try.prog.info? 61).map (fun i => (i.zero, i.size, i.bytes)) = some (some (.agg #[.slice none 0 0, .int .i64 0]), 2, 32) := by kernel_rfl

/-- Rows that were told, as rows on their way. -/
def nrs (vs : List Value) (ps : List (List UInt8)) (h : Nat) : List Ro := List.zipWith (fun v p => ⟨v, ⟨p, h⟩⟩) vs ps
theorem nrs_length (vs : List Value) (ps : List (List UInt8)) (h : Nat) (hl : vs.length = ps.length) : (nrs vs ps h).length = ps.length := by simp [nrs]; omega
theorem nrs_get {vs : List Value} {ps : List (List UInt8)} {h k : Nat} {v : Value} {l : List UInt8} (hv : vs[k]? = some v) (hl : ps[k]? = some l) : (nrs vs ps h)[k]? = some ⟨v, ⟨l, h⟩⟩ := by simp [nrs, List.getElem?_zipWith, hv, hl]
theorem nrs_rows (vs : List Value) (ps : List (List UInt8)) (h : Nat) (hl : vs.length = ps.length) : (nrs vs ps h).map (·.r) = ps.map fun p => ⟨p, h⟩ := by
  unfold nrs
  induction vs generalizing ps with
  | nil =>
    cases ps with
    | nil => rfl
    | cons p ps => simp at hl
  | cons v vs ih =>
    cases ps with
    | nil => simp at hl
    | cons p ps =>
      rw [List.zipWith_cons_cons, List.map_cons, List.map_cons, ih ps (by simpa using hl)]

/-- What stays known in Put, behind k rows. -/
structure Pt (w : World) (B D : Nat) (room : Int) (rs : List Ro) (F : Nat) (fk fn : Int) (y : UInt8) (V : Value) (L : Option Addr) (m c : Nat) (vs : List Value) (ps : List (List UInt8)) (h k : Nat) (x : World) : Prop where
  wi : Wi x B D room (rs ++ (nrs vs ps h).take k)
  told : Rp x w.heap.size L m c vs ps
  box : x.heap[F]? = some (.cells #[.int .i64 fk, .int .i64 fn, .int .u8 (y.toNat : Int), V] 30 (0, 0))
  ft : Ft B [57, 61] w x
theorem Pt.step {w x x' : World} {B D F m c h k : Nat} {room fk fn : Int} {rs : List Ro} {y : UInt8} {V : Value} {L : Option Addr} {vs : List Value} {ps : List (List UInt8)} (p : Pt w B D room rs F fk fn y V L m c vs ps h k x) (hb : Below x.heap.size x x') : Pt w B D room rs F fk fn y V L m c vs ps h k x' :=
  ⟨p.wi.step hb, p.told.step hb, (hb.block F (Array.getElem?_eq_some_iff.1 p.box).1).trans p.box, p.ft.step hb⟩
theorem Pt.cells {w x : World} {B D F m c h k : Nat} {room fk fn : Int} {rs : List Ro} {y : UInt8} {V : Value} {L : Option Addr} {vs : List Value} {ps : List (List UInt8)} (p : Pt w B D room rs F fk fn y V L m c vs ps h k x) :
    x.cell? ⟨F, 0, none⟩ = some (.int .i64 fk) ∧ x.cell? ⟨F, 1, none⟩ = some (.int .i64 fn) ∧ x.cell? ⟨F, 2, none⟩ = some (.int .u8 (y.toNat : Int)) ∧ x.cell? ⟨F, 3, none⟩ = some V := by
  have hb := p.box
  exact ⟨by simp [World.cell?, hb], by simp [World.cell?, hb], by simp [World.cell?, hb], by simp [World.cell?, hb]⟩
/-- One row more. -/
theorem Pt.next {w x x2 : World} {B D F m c h k n : Nat} {room fk fn : Int} {rs : List Ro} {y : UInt8} {V v : Value} {L A' : Option Addr} {c' : Nat} {vs : List Value} {ps : List (List UInt8)} {l : List UInt8} (p : Pt w B D room rs F fk fn y V L m c vs ps h k x)
    (hk : k < m) (hv : vs[k]? = some v) (hl : ps[k]? = some l) (hB : B ≤ w.heap.size) (hh : h ≤ 16) (hroom : ((rs.length + m : Nat) : Int) ≤ room) (hn : rs.length + k = n)
    (hq : Que x2 B 61 2 A' (n + 1) c' (rcs (rs ++ (nrs vs ps h).take k) ++ [v, .int .i64 (h : Int)])) (hf : Ft B [61] x x2) :
    Pt w B D room rs F fk fn y V L m c vs ps h (k + 1) (x2.setCell ⟨D, 1, none⟩ (.slice A' (n + 1) c')) := by
  have hpl := p.told.len
  have hvl := p.told.rows.len
  have hnl := nrs_length vs ps h hvl
  have hlen : (rs ++ (nrs vs ps h).take (k + 1)).length = n + 1 := by rw [List.length_append, List.length_take, hnl]; omega
  have htk : (nrs vs ps h).take (k + 1) = (nrs vs ps h).take k ++ [⟨v, ⟨l, h⟩⟩] := by rw [List.take_add_one, nrs_get hv hl]; rfl
  have hown := p.told.rows.own k v l hv hl
  obtain ⟨h1, h2⟩ := p.wi.turn (rs' := rs ++ (nrs vs ps h).take (k + 1)) (A' := A') (c' := c') hf (by
      rw [hlen, htk, ← List.append_assoc, rcs_append]
      exact hq) (by
      intro r hr
      rw [htk, ← List.append_assoc] at hr
      rcases List.mem_append.1 hr with hr | hr
      · exact own_ft (p.wi.row r hr) hf (by decide)
      · simp at hr
        subst hr
        exact own_mono (own_ft hown hf (by decide)) hB) (by
      intro r hr
      rw [htk, ← List.append_assoc] at hr
      rcases List.mem_append.1 hr with hr | hr
      · exact p.wi.most r hr
      · simp at hr
        subst hr
        exact hh) (by rw [hlen]; omega)
  rw [hlen] at h1 h2
  exact ⟨h1, p.told.ft h2 (by decide) (by decide), h2.keep p.box (by decide), p.ft.trans h2⟩

/-- What Put answers. -/
def PutPost (w : World) (B D : Nat) (room : Int) (rs : List Ro) (f : Fl) (l : List UInt8) (e : Ending) (w' : World) : Prop :=
  ∃ rs', e = .returned (.int .i64 (putM room (rs.map (·.r)) f l).2) ∧ Wi w' B D room rs' ∧ rs'.map (·.r) = (putM room (rs.map (·.r)) f l).1 ∧ Ft B [57, 61] w w'

set_option maxRecDepth 20000 in
set_option maxHeartbeats 1600000 in
theorem put_on {w : World} {B D g n c gB bc : Nat} {room : Int} {rs : List Ro} {A AB : Option Addr} {l : List UInt8} {f : Fl} (hw : Wi w B D room rs) (hBw : B ≤ w.heap.size) (hrl : rs.length ≤ 1000000) (h : Holds w g A (bcs l)) (hn : l.length = n) (hle : n ≤ 1000000) (hc : n ≤ c) (hcm : c ≤ maxLen) (hB : Holds w gB AB (bcs f.b)) (hbc : f.b.length ≤ bc) (hbm : bc ≤ maxLen) :
    Calls Try.prog 17 #[.pointer (some ⟨D, 0, none⟩), .slice A n c, .agg #[.int .i64 f.k, .int .i64 f.n, .int .u8 (f.y.toNat : Int), .slice AB f.b.length bc]] w (PutPost w B D room rs f l) := by
  obtain ⟨i0, hi, hz0, hz1, hz2⟩ := info_parts info_row
  have H := Lib.hid h
  have HB := Lib.hid hB
  have HN := Lib.hid hn
  have HW := Lib.hid hw
  have HC := Lib.hid hc
  have HCM := Lib.hid hcm
  have HBC := Lib.hid hbc
  have HBM := Lib.hid hbm
  clear h hn hB hw hc hcm hbc hbm
  have HHD : Hid ((if f.k = 3 then min f.n.toNat 16 else 0) = f.held) := rfl
  have HOf : Hid (∀ (w : World) (g gB : Nat), Holds w g A (bcs l) → Holds w gB AB (bcs f.b) → Calls Try.prog 14 #[.agg #[.int .i64 f.k, .int .i64 f.n, .int .u8 (f.y.toNat : Int), .slice AB f.b.length bc], .slice A n c] w (RowsPost w (f.of l))) :=
    fun w g gB h1 h2 => of_on h1 HN.out hle HC.out HCM.out h2 HBC.out HBM.out
  have HPM : Hid (putM room (rs.map (·.r)) f l = if room < ((rs.length + (f.of l).length : Nat) : Int) then (rs.map (·.r), 5) else (rs.map (·.r) ++ (f.of l).map (fun b => ⟨b, f.held⟩), 0)) := by
    show _ = _
    unfold putM Fl.rows
    rw [List.length_map]
  have HL2 := Lib.hid (f.of_len l)
  have HH16 := Lib.hid f.held_le
  generalize f.of l = ps at *
  generalize f.held = hd at *
  have HX1 := Lib.hid (heap_alloc_new w (.cells #[.int .i64 f.k, .int .i64 f.n, .int .u8 (f.y.toNat : Int), .slice AB f.b.length bc] 30))
  have HB1 := Lib.hid (new_below w (.cells #[.int .i64 f.k, .int .i64 f.n, .int .u8 (f.y.toNat : Int), .slice AB f.b.length bc] 30))
  cases f with
  | mk fk fn y fb =>
  simp only at *
  generalize fb.length = bl at *
  go_enter Try.func17, Try.ntmps17
  go_wp2_with fail
  refine (HOf.out _ g gB (H.out.keep (Ch.of_below HB1.out) (by simp)) (HB.out.keep (Ch.of_below HB1.out) (by simp))).mono ?_
  rintro e x1 ⟨V, vs, cv, rfl, hrp, hb⟩
  have HBX : Hid (Below w.heap.size w x1) := HB1.out.trans (hb.mono HB1.out.size)
  obtain ⟨m, hm⟩ : ∃ m, ps.length = m := ⟨_, rfl⟩
  have HM := Lib.hid hm
  have P1 : Hid (Pt w B D room rs w.heap.size fk fn y (.slice AB bl bc) V m cv vs ps hd 0 x1) := by
    refine ⟨?_, ?_, ?_, Ft.of_below HBX.out⟩
    · rw [List.take_zero, List.append_nil]; exact HW.out.step HBX.out
    · rw [← hm]; exact hrp.mono HB1.out.size
    · exact (hb.block _ (by simp)).trans HX1.out
  have hFlt : Hid (w.heap.size < x1.heap.size) := Nat.lt_of_lt_of_le (by simp) hb.size
  have hm2 : m ≤ 2 := by have := HL2.out; omega
  rw [hm]
  clear hrp hb HX1 HB1 H HB HOf hm HBX hFlt
  generalize hF : w.heap.size = F at *
  have HFE := Lib.hid hF
  clear hF
  go_upto_region 2 with fail
  replace P1 := Lib.hid (P1.out.step (drew_below x1))
  obtain ⟨Ad, cd, d0, d1, f1, hq⟩ := P1.out.wi.cells
  rw [List.take_zero, List.append_nil] at d1
  clear hq
  refine region_plan [(true, 0), (true, 1), (true, 2), (true, 3), (true, 4), (true, 5), (true, 6), (true, 7), (true, 8), (true, 9), (true, 10), (true, 11), (true, 12)]
    (fun x => x.cell? ⟨D, 0, none⟩ = some (.int .i64 room) ∧ x.cell? ⟨D, 1, none⟩ = some (.slice Ad rs.length cd)) (by kernel_rfl) (by kernel_rfl) (by kernel_rfl) rfl ⟨d0, d1⟩ ?_
  generalize x1.drew = x2 at *
  have hwr : IntKind.i64.wrap (room - (rs.length : Int)) = room - (rs.length : Int) := by
    have := HW.out.room_
    rw [IntKind.wrap_i64]
    omega
  iterate 13 (refine Plan.take (v := ?_) rfl (by rfl) ?_ ?_; rotate_left 1; (focus (intro x hx; go_simp <;> (first | with_reducible rfl | rw [if_pos (by omega)]))); simp only [Act.put, List.setIfInBounds_toArray, List.set_cons_zero, List.set_cons_succ])
  refine Plan.done ?_
  by_cases hfull : room < ((rs.length + m : Nat) : Int)
  · have hcmp : room - (rs.length : Int) < (m : Int) := by omega
    go_wp2
    go_ret
    unfold PutPost
    rw [HPM.out, HM.out, if_pos hfull]
    have hFE := HFE.out
    refine ⟨rs, rfl, ?_, rfl, P1.out.ft⟩
    have := P1.out.wi
    rw [List.take_zero, List.append_nil] at this
    exact this
  · have hcmp : ¬ room - (rs.length : Int) < (m : Int) := by omega
    have HFit : Hid (((rs.length + m : Nat) : Int) ≤ room) := by show _ ≤ _; omega
    clear d0 d1 f1 hwr
    go_wp2
    clear hcmp
    go_loopw [28] (fun i wr => ∃ k : Nat, k ≤ m ∧ i = .int .i64 k ∧ Hid (Pt w B D room rs F fk fn y (.slice AB bl bc) V m cv vs ps hd k wr)) (fun i _ => m - (intOf i).toNat)
    case atStart => exact ⟨0, Nat.zero_le _, rfl, P1⟩
    case round =>
      obtain ⟨k, hk, rfl, HP⟩ := hrel
      clear P1
      by_cases hlt : k < m
      · have hlt' : (k : Int) < (m : Int) := by omega
        obtain ⟨gv, Ak, lk, ck, rfl, hBv, hgl, hvk, hpk, hcell, hfz, hown⟩ := HP.out.told.at k hlt
        have HVK := Lib.hid hvk
        have HPK := Lib.hid hpk
        clear hBv hgl hvk hpk hfz hown
        go_upto_region 7 with fail
        replace HP := Lib.hid (HP.out.step (drew_below wr))
        obtain ⟨q0, q1, q2, q3⟩ := HP.out.cells
        obtain ⟨Aq, cq, d0, d1, f1, hq⟩ := HP.out.wi.cells
        have hlen : (rs ++ (nrs vs ps hd).take k).length = rs.length + k := by
          rw [List.length_append, List.length_take, nrs_length vs ps hd HP.out.told.rows.len, HP.out.told.len]
          omega
        rw [hlen] at d1 hq
        have HQ := Lib.hid hq
        clear hq hlen d0 hcell
        generalize hnn : rs.length + k = nn at *
        have HNN := Lib.hid hnn
        clear hnn
        refine region_tree (.take 0 (.take 1 (.take 2 (.take 3 (.take 5 (.take 6 (.two 4 (.one 7 (.take 8 (.one 9 (.one 10 (.take 11 (.take 12 (.one 13 .done))))))) 7 (.take 8 (.two 4 (.one 9 (.one 10 (.take 11 (.take 12 (.one 13 .done))))) 9 (.one 4 (.one 10 (.take 11 (.take 12 (.one 13 .done))))))))))))))
          (fun x => x.cell? ⟨F, 0, none⟩ = some (.int .i64 fk) ∧ x.cell? ⟨F, 1, none⟩ = some (.int .i64 fn) ∧ x.cell? ⟨F, 2, none⟩ = some (.int .u8 (y.toNat : Int)) ∧ x.cell? ⟨F, 3, none⟩ = some (.slice AB bl bc)) (by kernel_rfl) (by kernel_rfl) (by kernel_rfl) (by kernel_rfl) ⟨q0, q1, q2, q3⟩ ?_
        have HD1 := Lib.hid d1
        have HQQ := Lib.hid (And.intro q0 (And.intro q1 (And.intro q2 q3)))
        clear d1 f1 q0 q1 q2 q3
        generalize wr.drew = x3 at *
        iterate 6 (refine Tree.take (v := ?_) rfl (by rfl) ?_ ?_; rotate_left 1; (focus (intro x hx; go_simp <;> (first | with_reducible rfl | rw [if_pos (by omega)]))); simp only [Act.put, List.setIfInBounds_toArray, List.set_cons_zero, List.set_cons_succ])
        refine Tree.two rfl rfl (fun K hK => ?_) (fun K hK => ?_)
        rotate_left 1
        · go_simp
          refine times_on.mono ?_
          rintro e x4 ⟨rfl, hb4⟩
          simp only [HHD.out]
          have HP4 := Lib.hid (HP.out.step hb4)
          have d14 : x4.cell? ⟨D, 1, none⟩ = some (.slice Aq nn cq) := (hb4.cell (p := ⟨D, 1, none⟩) HP.out.wi.lt).trans HD1.out
          have HQ4 := Lib.hid (HQ.out.ft (B := 0) (T := []) (Ft.of_below hb4) (by simp))
          clear hb4 HP HQ HD1 HQQ
          obtain ⟨q0, q1, q2, q3⟩ := HP4.out.cells
          refine hK.out _ _ _ (fun x hx => hx) ⟨q0, q1, q2, q3⟩ ?_
          clear hK K
          iterate 1 (refine Tree.take (v := ?_) rfl (by rfl) ?_ ?_; rotate_left 1; (focus (intro x hx; go_simp <;> (first | with_reducible rfl | rw [if_pos (by omega)]))); simp only [Act.put, List.setIfInBounds_toArray, List.set_cons_zero, List.set_cons_succ])
          refine Tree.two rfl rfl (fun K hK => ?_) (fun K hK => ?_)
          · go_simp
            refine hK.out _ _ _ (fun x hx => hx) ⟨q0, q1, q2, q3⟩ ?_
            clear hK K
            refine Tree.one rfl (fun K hK => ?_)
            go_simp
            have hb5 := new_below x4 (.cells #[.slice Ak lk.length ck, .int .i64 (hd : Int)] 61)
            have HP5 := Lib.hid (HP4.out.step hb5)
            have HQ5 := Lib.hid (HQ4.out.ft (B := 0) (T := []) (Ft.of_below hb5) (by simp))
            have d15 : (x4.alloc (.cells #[.slice Ak lk.length ck, .int .i64 (hd : Int)] 61)).cell? ⟨D, 1, none⟩ = some (.slice Aq nn cq) := (hb5.cell (p := ⟨D, 1, none⟩) HP4.out.wi.lt).trans d14
            have HN5 : Hid (∀ j u, [Value.slice Ak lk.length ck, .int .i64 (hd : Int)][j]? = some u → (x4.alloc (.cells #[.slice Ak lk.length ck, .int .i64 (hd : Int)] 61)).cell? ((⟨x4.heap.size, 0, none⟩ : Addr).add j) = some u) := by
              intro j u hu
              rw [addr_add, Nat.zero_add, cell_alloc_new _ _ _ _ _ rfl]
              simpa using hu
            have HBB : Hid (B ≤ (x4.alloc (.cells #[.slice Ak lk.length ck, .int .i64 (hd : Int)] 61)).heap.size) := by
              have h1 := HP5.out.ft.size
              have h2 := HFE.out
              show _ ≤ _
              omega
            clear hb5 d14 HP4 HQ4 q0 q1 q2 q3
            obtain ⟨q0, q1, q2, q3⟩ := HP5.out.cells
            refine hK.out _ _ _ (fun x hx => hx) ⟨q0, q1, q2, q3⟩ ?_
            clear hK K
            generalize x4.alloc (.cells #[.slice Ak lk.length ck, .int .i64 (hd : Int)] 61) = x5 at *
            generalize x4.heap.size = S5 at *
            refine Tree.one rfl (fun K hK => ?_)
            rw [if_pos (by rfl)]
            have hnn := HNN.out
            refine wp_append_que (.tmp 36) (.tmp 41) 55 rfl B 61 i0 (.agg #[.slice none 0 0, .int .i64 0]) 2 32 Try.underlying55 hi hz0 hz1 hz2 rfl (by decide) Aq nn cq _ rfl HQ5.out ⟨S5, 0, none⟩ 1 1 [.slice Ak lk.length ck, .int .i64 (hd : Int)] rfl rfl HN5.out (by simp [Value.oneCell']) (by unfold maxLen; omega) (by omega) HBB.out ?_
            intro A6 c6 x6 hq6 hf6
            have HQ6 := Lib.hid hq6
            have HF6 := Lib.hid hf6
            have d16 : x6.cell? ⟨D, 1, none⟩ = some (.slice Aq nn cq) := by
              obtain ⟨Ax, cx, h4, _⟩ := HP5.out.wi.que
              have h6 := hf6.keep h4 (by decide)
              have h5 : x5.cell? ⟨D, 1, none⟩ = x6.cell? ⟨D, 1, none⟩ := by simp [World.cell?, h4, h6]
              rw [← h5]
              exact d15
            have f16 : x6.frozen? ⟨D, 1, none⟩ = false := by
              obtain ⟨Ax, cx, h4, _⟩ := HP5.out.wi.que
              have h6 := hf6.keep h4 (by decide)
              simp [World.frozen?, h6]
            have hbx := hf6.keep HP5.out.box (by decide)
            refine hK.out _ _ _ (fun x hx => hx) ⟨by simp [World.cell?, hbx], by simp [World.cell?, hbx], by simp [World.cell?, hbx], by simp [World.cell?, hbx]⟩ ?_
            clear hK K hbx q0 q1 q2 q3 d15 HN5 hq6 hf6
            simp only [Act.put, List.setIfInBounds_toArray, List.set_cons_zero, List.set_cons_succ]
            iterate 2 (refine Tree.take (v := ?_) rfl (by rfl) ?_ ?_; rotate_left 1; (focus (intro x hx; go_simp <;> (first | with_reducible rfl | rw [if_pos (by omega)]))); simp only [Act.put, List.setIfInBounds_toArray, List.set_cons_zero, List.set_cons_succ])
            refine Tree.one rfl (fun K hK => ?_)
            go_simp
            have H7 := Lib.hid (HP5.out.next hlt HVK.out HPK.out (by rw [HFE.out]; exact hBw) HH16.out HFit.out HNN.out HQ6.out HF6.out)
            obtain ⟨q0, q1, q2, q3⟩ := H7.out.cells
            refine hK.out _ _ _ (fun x hx => hx) ⟨q0, q1, q2, q3⟩ ?_
            clear hK K q0 q1 q2 q3 d16 f16 HP5 HQ5 HQ6 HF6 HBB
            generalize x6.setCell ⟨D, 1, none⟩ (.slice A6 (nn + 1) c6) = x7 at *
            refine Tree.done ?_
            go_wp2
            go_roundw
            case rel => exact ⟨k + 1, by omega, by go_num, H7⟩
            case measure => simp [intOf]; omega
          · go_simp
            have hb5 := new_below x4 (.cells #[.slice Ak lk.length ck, .int .i64 (hd : Int)] 61)
            have HP5 := Lib.hid (HP4.out.step hb5)
            have HQ5 := Lib.hid (HQ4.out.ft (B := 0) (T := []) (Ft.of_below hb5) (by simp))
            have d15 : (x4.alloc (.cells #[.slice Ak lk.length ck, .int .i64 (hd : Int)] 61)).cell? ⟨D, 1, none⟩ = some (.slice Aq nn cq) := (hb5.cell (p := ⟨D, 1, none⟩) HP4.out.wi.lt).trans d14
            have HN5 : Hid (∀ j u, [Value.slice Ak lk.length ck, .int .i64 (hd : Int)][j]? = some u → (x4.alloc (.cells #[.slice Ak lk.length ck, .int .i64 (hd : Int)] 61)).cell? ((⟨x4.heap.size, 0, none⟩ : Addr).add j) = some u) := by
              intro j u hu
              rw [addr_add, Nat.zero_add, cell_alloc_new _ _ _ _ _ rfl]
              simpa using hu
            have HBB : Hid (B ≤ (x4.alloc (.cells #[.slice Ak lk.length ck, .int .i64 (hd : Int)] 61)).heap.size) := by
              have h1 := HP5.out.ft.size
              have h2 := HFE.out
              show _ ≤ _
              omega
            clear hb5 d14 HP4 HQ4 q0 q1 q2 q3
            obtain ⟨q0, q1, q2, q3⟩ := HP5.out.cells
            refine hK.out _ _ _ (fun x hx => hx) ⟨q0, q1, q2, q3⟩ ?_
            clear hK K
            generalize x4.alloc (.cells #[.slice Ak lk.length ck, .int .i64 (hd : Int)] 61) = x5 at *
            generalize x4.heap.size = S5 at *
            refine Tree.one rfl (fun K hK => ?_)
            go_simp
            refine hK.out _ _ _ (fun x hx => hx) ⟨q0, q1, q2, q3⟩ ?_
            clear hK K
            refine Tree.one rfl (fun K hK => ?_)
            rw [if_pos (by rfl)]
            have hnn := HNN.out
            refine wp_append_que (.tmp 36) (.tmp 41) 55 rfl B 61 i0 (.agg #[.slice none 0 0, .int .i64 0]) 2 32 Try.underlying55 hi hz0 hz1 hz2 rfl (by decide) Aq nn cq _ rfl HQ5.out ⟨S5, 0, none⟩ 1 1 [.slice Ak lk.length ck, .int .i64 (hd : Int)] rfl rfl HN5.out (by simp [Value.oneCell']) (by unfold maxLen; omega) (by omega) HBB.out ?_
            intro A6 c6 x6 hq6 hf6
            have HQ6 := Lib.hid hq6
            have HF6 := Lib.hid hf6
            have d16 : x6.cell? ⟨D, 1, none⟩ = some (.slice Aq nn cq) := by
              obtain ⟨Ax, cx, h4, _⟩ := HP5.out.wi.que
              have h6 := hf6.keep h4 (by decide)
              have h5 : x5.cell? ⟨D, 1, none⟩ = x6.cell? ⟨D, 1, none⟩ := by simp [World.cell?, h4, h6]
              rw [← h5]
              exact d15
            have f16 : x6.frozen? ⟨D, 1, none⟩ = false := by
              obtain ⟨Ax, cx, h4, _⟩ := HP5.out.wi.que
              have h6 := hf6.keep h4 (by decide)
              simp [World.frozen?, h6]
            have hbx := hf6.keep HP5.out.box (by decide)
            refine hK.out _ _ _ (fun x hx => hx) ⟨by simp [World.cell?, hbx], by simp [World.cell?, hbx], by simp [World.cell?, hbx], by simp [World.cell?, hbx]⟩ ?_
            clear hK K hbx q0 q1 q2 q3 d15 HN5 hq6 hf6
            simp only [Act.put, List.setIfInBounds_toArray, List.set_cons_zero, List.set_cons_succ]
            iterate 2 (refine Tree.take (v := ?_) rfl (by rfl) ?_ ?_; rotate_left 1; (focus (intro x hx; go_simp <;> (first | with_reducible rfl | rw [if_pos (by omega)]))); simp only [Act.put, List.setIfInBounds_toArray, List.set_cons_zero, List.set_cons_succ])
            refine Tree.one rfl (fun K hK => ?_)
            go_simp
            have H7 := Lib.hid (HP5.out.next hlt HVK.out HPK.out (by rw [HFE.out]; exact hBw) HH16.out HFit.out HNN.out HQ6.out HF6.out)
            obtain ⟨q0, q1, q2, q3⟩ := H7.out.cells
            refine hK.out _ _ _ (fun x hx => hx) ⟨q0, q1, q2, q3⟩ ?_
            clear hK K q0 q1 q2 q3 d16 f16 HP5 HQ5 HQ6 HF6 HBB
            generalize x6.setCell ⟨D, 1, none⟩ (.slice A6 (nn + 1) c6) = x7 at *
            refine Tree.done ?_
            go_wp2
            go_roundw
            case rel => exact ⟨k + 1, by omega, by go_num, H7⟩
            case measure => simp [intOf]; omega
        · have d1 := HD1.out
          go_simp
          refine hK.out _ _ _ (fun x hx => hx) HQQ.out ?_
          clear hK K d1
          refine Tree.one rfl (fun K hK => ?_)
          go_simp
          refine times_on.mono ?_
          rintro e x4 ⟨rfl, hb4⟩
          simp only [HHD.out]
          have HP4 := Lib.hid (HP.out.step hb4)
          have d14 : x4.cell? ⟨D, 1, none⟩ = some (.slice Aq nn cq) := (hb4.cell (p := ⟨D, 1, none⟩) HP.out.wi.lt).trans HD1.out
          have HQ4 := Lib.hid (HQ.out.ft (B := 0) (T := []) (Ft.of_below hb4) (by simp))
          clear hb4 HP HQ HD1 HQQ
          obtain ⟨q0, q1, q2, q3⟩ := HP4.out.cells
          refine hK.out _ _ _ (fun x hx => hx) ⟨q0, q1, q2, q3⟩ ?_
          clear hK K
          iterate 1 (refine Tree.take (v := ?_) rfl (by rfl) ?_ ?_; rotate_left 1; (focus (intro x hx; go_simp <;> (first | with_reducible rfl | rw [if_pos (by omega)]))); simp only [Act.put, List.setIfInBounds_toArray, List.set_cons_zero, List.set_cons_succ])
          refine Tree.one rfl (fun K hK => ?_)
          go_simp
          have hb5 := new_below x4 (.cells #[.slice Ak lk.length ck, .int .i64 (hd : Int)] 61)
          have HP5 := Lib.hid (HP4.out.step hb5)
          have HQ5 := Lib.hid (HQ4.out.ft (B := 0) (T := []) (Ft.of_below hb5) (by simp))
          have d15 : (x4.alloc (.cells #[.slice Ak lk.length ck, .int .i64 (hd : Int)] 61)).cell? ⟨D, 1, none⟩ = some (.slice Aq nn cq) := (hb5.cell (p := ⟨D, 1, none⟩) HP4.out.wi.lt).trans d14
          have HN5 : Hid (∀ j u, [Value.slice Ak lk.length ck, .int .i64 (hd : Int)][j]? = some u → (x4.alloc (.cells #[.slice Ak lk.length ck, .int .i64 (hd : Int)] 61)).cell? ((⟨x4.heap.size, 0, none⟩ : Addr).add j) = some u) := by
            intro j u hu
            rw [addr_add, Nat.zero_add, cell_alloc_new _ _ _ _ _ rfl]
            simpa using hu
          have HBB : Hid (B ≤ (x4.alloc (.cells #[.slice Ak lk.length ck, .int .i64 (hd : Int)] 61)).heap.size) := by
            have h1 := HP5.out.ft.size
            have h2 := HFE.out
            show _ ≤ _
            omega
          clear hb5 d14 HP4 HQ4 q0 q1 q2 q3
          obtain ⟨q0, q1, q2, q3⟩ := HP5.out.cells
          refine hK.out _ _ _ (fun x hx => hx) ⟨q0, q1, q2, q3⟩ ?_
          clear hK K
          generalize x4.alloc (.cells #[.slice Ak lk.length ck, .int .i64 (hd : Int)] 61) = x5 at *
          generalize x4.heap.size = S5 at *
          refine Tree.one rfl (fun K hK => ?_)
          rw [if_pos (by rfl)]
          have hnn := HNN.out
          refine wp_append_que (.tmp 36) (.tmp 41) 55 rfl B 61 i0 (.agg #[.slice none 0 0, .int .i64 0]) 2 32 Try.underlying55 hi hz0 hz1 hz2 rfl (by decide) Aq nn cq _ rfl HQ5.out ⟨S5, 0, none⟩ 1 1 [.slice Ak lk.length ck, .int .i64 (hd : Int)] rfl rfl HN5.out (by simp [Value.oneCell']) (by unfold maxLen; omega) (by omega) HBB.out ?_
          intro A6 c6 x6 hq6 hf6
          have HQ6 := Lib.hid hq6
          have HF6 := Lib.hid hf6
          have d16 : x6.cell? ⟨D, 1, none⟩ = some (.slice Aq nn cq) := by
            obtain ⟨Ax, cx, h4, _⟩ := HP5.out.wi.que
            have h6 := hf6.keep h4 (by decide)
            have h5 : x5.cell? ⟨D, 1, none⟩ = x6.cell? ⟨D, 1, none⟩ := by simp [World.cell?, h4, h6]
            rw [← h5]
            exact d15
          have f16 : x6.frozen? ⟨D, 1, none⟩ = false := by
            obtain ⟨Ax, cx, h4, _⟩ := HP5.out.wi.que
            have h6 := hf6.keep h4 (by decide)
            simp [World.frozen?, h6]
          have hbx := hf6.keep HP5.out.box (by decide)
          refine hK.out _ _ _ (fun x hx => hx) ⟨by simp [World.cell?, hbx], by simp [World.cell?, hbx], by simp [World.cell?, hbx], by simp [World.cell?, hbx]⟩ ?_
          clear hK K hbx q0 q1 q2 q3 d15 HN5 hq6 hf6
          simp only [Act.put, List.setIfInBounds_toArray, List.set_cons_zero, List.set_cons_succ]
          iterate 2 (refine Tree.take (v := ?_) rfl (by rfl) ?_ ?_; rotate_left 1; (focus (intro x hx; go_simp <;> (first | with_reducible rfl | rw [if_pos (by omega)]))); simp only [Act.put, List.setIfInBounds_toArray, List.set_cons_zero, List.set_cons_succ])
          refine Tree.one rfl (fun K hK => ?_)
          go_simp
          have H7 := Lib.hid (HP5.out.next hlt HVK.out HPK.out (by rw [HFE.out]; exact hBw) HH16.out HFit.out HNN.out HQ6.out HF6.out)
          obtain ⟨q0, q1, q2, q3⟩ := H7.out.cells
          refine hK.out _ _ _ (fun x hx => hx) ⟨q0, q1, q2, q3⟩ ?_
          clear hK K q0 q1 q2 q3 d16 f16 HP5 HQ5 HQ6 HF6 HBB
          generalize x6.setCell ⟨D, 1, none⟩ (.slice A6 (nn + 1) c6) = x7 at *
          refine Tree.done ?_
          go_wp2
          go_roundw
          case rel => exact ⟨k + 1, by omega, by go_num, H7⟩
          case measure => simp [intOf]; omega
      · have hkm : k = m := by omega
        subst hkm
        go_wp2
        go_ret
        unfold PutPost
        rw [HPM.out, HM.out, if_neg (by have := HFit.out; omega)]
        have h1 := HP.out.wi
        have hl := nrs_length vs ps hd HP.out.told.rows.len
        rw [List.take_of_length_le (by rw [hl, HM.out]; exact Nat.le_refl _)] at h1
        exact ⟨_, rfl, h1, by rw [List.map_append, nrs_rows _ _ _ HP.out.told.rows.len], HP.out.ft⟩

end Go.Proofs.Ythpalepkilmpiaa
