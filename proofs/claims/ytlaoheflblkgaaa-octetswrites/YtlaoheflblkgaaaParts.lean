/-
  lamplightlaw01.parts: at most five parts, of at most fifty bytes each, in memory of their own; all as one. Its contract.
-/
import Derived.Test.YtlaoheflblkgaaaShown
import Derived.Test.YtlaoheflblkgaaaNums
import Derived.Test.YtlaoheflblkgaaaEager
namespace Go.Proofs.Ytlaoheflblkgaaa
set_option linter.unusedVariables false
set_option linter.unusedSimpArgs false
open Go.RowKit

theorem info_bytes : (Try.prog.info? 22).map (fun i => (i.zero, i.size, i.bytes)) = some (some (.slice none 0 0), 1, 24) := by kernel_rfl

/-- Slices of bytes as they come in. -/
def InParts (w : World) (P : Option Addr) (ps : List (List UInt8)) : Prop :=
  ∀ k l, ps[k]? = some l → ∃ b o g A c, P = some ⟨b, o, none⟩ ∧ b < w.heap.size ∧ w.cell? ⟨b, o + k, none⟩ = some (.slice A l.length c) ∧ l.length ≤ c ∧ c ≤ 9223372036854775807 ∧ Holds w g A (bcs l)

theorem InParts.below {w w' : World} {P : Option Addr} {ps : List (List UInt8)} (h : InParts w P ps) (hb : Below w.heap.size w w') : InParts w' P ps := by
  intro k l hk
  obtain ⟨b, o, g, A, c, hP, hbw, hcell, h1, h2, hh⟩ := h k l hk
  exact ⟨b, o, g, A, c, hP, Nat.lt_of_lt_of_le hbw hb.size, (hb.cell (p := ⟨b, o + k, none⟩) hbw).trans hcell, h1, h2, hh.keep (Ch.of_below hb) (by simp)⟩

/-- Slices of bytes that a call has made, in rows of their own from block B on. -/
structure Rows_ (w : World) (B : Nat) (vs : List Value) (ps : List (List UInt8)) : Prop where
  len : vs.length = ps.length
  own : ∀ (j : Nat) (v : Value) (l : List UInt8), vs[j]? = some v → ps[j]? = some l → w.ownsRow 0 5 1 v l.length (bcs l) ∧ ∀ h, v.ownBlock = some h → B ≤ h

theorem own_far {w w' : World} {row : Option Nat} {v v' : Value} {n n' : Nat} {xs xs' : List Value} {e e' : TypeId} (hg : w.grownBy w' row) (hrow : row = v'.ownBlock) (h : w.ownsRow 0 e 1 v n xs) (h' : w.ownsRow 0 e' 1 v' n' xs') (hne : e ≠ e') : w'.ownsRow 0 e 1 v n xs := by
  refine h.kept hg ?_
  cases hv : v.ownBlock with
  | none => exact .inl rfl
  | some g =>
    right
    rw [hrow]
    intro he
    rcases h'.2 with ⟨rfl, _⟩ | ⟨g', cap', cur', rfl, _, hh', _⟩
    · simp [Value.ownBlock] at he
    · simp [Value.ownBlock] at he
      exact own_ne (W := g) (g := g) (by rw [he]; exact hh') h hv hne rfl

theorem Rows_.keep {w w' : World} {B : Nat} {vs : List Value} {ps : List (List UInt8)} (h : Rows_ w B vs ps) (hk : ∀ v n xs, w.ownsRow 0 5 1 v n xs → (∀ g, v.ownBlock = some g → B ≤ g) → w'.ownsRow 0 5 1 v n xs) : Rows_ w' B vs ps :=
  ⟨h.len, fun j v l hv hl => ⟨hk v _ _ (h.own j v l hv hl).1 (h.own j v l hv hl).2, (h.own j v l hv hl).2⟩⟩
theorem Rows_.snoc {w : World} {B : Nat} {vs : List Value} {ps : List (List UInt8)} (h : Rows_ w B vs ps) {v : Value} {l : List UInt8} (hv : w.ownsRow 0 5 1 v l.length (bcs l)) (hB : ∀ g, v.ownBlock = some g → B ≤ g) : Rows_ w B (vs ++ [v]) (ps ++ [l]) := by
  refine ⟨by simp [h.len], fun j u m hu hm => ?_⟩
  rcases Nat.lt_or_ge j vs.length with hj | hj
  · rw [List.getElem?_append_left hj] at hu
    rw [List.getElem?_append_left (by rw [← h.len]; exact hj)] at hm
    exact h.own j u m hu hm
  · rw [List.getElem?_append_right hj] at hu
    rw [List.getElem?_append_right (by rw [← h.len]; exact hj)] at hm
    rw [h.len] at hu
    cases hk : j - ps.length with
    | zero =>
      rw [hk] at hu hm
      simp at hu hm
      subst hu hm
      exact ⟨hv, hB⟩
    | succ k => rw [hk] at hu; simp at hu

/-- A slice of them. -/
structure OwnP (w : World) (B : Nat) (V : Option Addr) (c : Nat) (ps : List (List UInt8)) (vs : List Value) : Prop where
  outer : w.ownsRow 0 22 1 (.slice V ps.length c) ps.length vs
  from_ : ∀ h, (Value.slice V ps.length c).ownBlock = some h → B ≤ h
  rows : Rows_ w B vs ps

theorem OwnP.ok {w : World} {B : Nat} {V : Option Addr} {c : Nat} {ps : List (List UInt8)} {vs : List Value} (h : OwnP w B V c ps vs) : PartsOk w (fun x => B ≤ x ∧ x < w.heap.size) V ps := by
  intro k l hk
  have hkl : k < ps.length := by
    rcases Nat.lt_or_ge k ps.length with h | h
    · exact h
    · rw [List.getElem?_eq_none h] at hk; cases hk
  have hkv : k < vs.length := by rw [h.rows.len]; exact hkl
  obtain ⟨hv, hB⟩ := h.rows.own k vs[k] l (List.getElem?_eq_getElem hkv) hk
  obtain ⟨A, c', hform⟩ := own_form hv
  rcases h.outer.2 with ⟨_, h0⟩ | ⟨g, cap, cur, hV, _, hh, h1, h2, h3, h4⟩
  · omega
  · injection hV with hV _ _
    have hgB : B ≤ g := h.from_ g (by rw [hV]; rfl)
    have hglt := (Array.getElem?_eq_some_iff.1 hh).1
    have hcell : w.cell? ⟨g, 0 + k, none⟩ = some (.slice A l.length c') := by
      have h5 : vs[k]? = some (.slice A l.length c') := by rw [List.getElem?_eq_getElem hkv, hform]
      rw [← h4, List.getElem?_take] at h5
      split at h5
      · simp only [World.cell?, hh]
        simpa using h5
      · cases h5
    rw [hform] at hv hB
    cases hA : A with
    | none =>
      subst hA
      have hl0 : l.length = 0 := by
        rcases hv.2 with ⟨_, h0⟩ | ⟨g', _, _, hx, _⟩
        · exact h0
        · cases hx
      have hl : l = [] := List.eq_nil_of_length_eq_zero hl0
      subst hl
      exact ⟨g, 0, g, none, c', hV, ⟨hgB, hglt⟩, hcell, fun h => absurd h (by simp), Holds.nil _ _ _⟩
    | some ad =>
      subst hA
      exact ⟨g, 0, ad.block, some ad, c', hV, ⟨hgB, hglt⟩, hcell, fun _ => ⟨hB _ rfl, (hv.lt ad.block rfl).2⟩, own_holds hv (by intro h hh; simp [Value.ownBlock] at hh; exact hh.symm)⟩

/-- What the call owns stays, as long as nothing from B on turns but one row of bytes that is not theirs, or one row of slices. -/
theorem OwnP.alloc {w : World} {B : Nat} {V : Option Addr} {c : Nat} {ps : List (List UInt8)} {vs : List Value} (h : OwnP w B V c ps vs) (o : Obj) : OwnP (w.alloc o) B V c ps vs :=
  ⟨h.outer.alloc o, h.from_, h.rows.keep fun _ _ _ hv _ => hv.alloc o⟩
theorem OwnP.drew {w : World} {B : Nat} {V : Option Addr} {c : Nat} {ps : List (List UInt8)} {vs : List Value} (h : OwnP w B V c ps vs) : OwnP w.drew B V c ps vs :=
  ⟨h.outer, h.from_, h.rows.keep fun _ _ _ hv _ => hv⟩
/-- A change that keeps to blocks that are none of theirs. -/
theorem own_ch {F : List Nat} {w w' : World} {v : Value} {n : Nat} {xs : List Value} {e : TypeId} (h : w.ownsRow 0 e 1 v n xs) (hc : Ch F w w') (hF : ∀ g, v.ownBlock = some g → g ∉ F) : w'.ownsRow 0 e 1 v n xs := by
  refine ⟨h.1, ?_⟩
  rcases h.2 with hn | ⟨g, cap, cur, rfl, hb, hh, r⟩
  · exact .inl hn
  · exact .inr ⟨g, cap, cur, rfl, hb, (hc.block g (Array.getElem?_eq_some_iff.1 hh).1 (hF g rfl)).trans hh, r⟩
theorem OwnP.keep {F : List Nat} {w w' : World} {B : Nat} {V : Option Addr} {c : Nat} {ps : List (List UInt8)} {vs : List Value} (h : OwnP w B V c ps vs) (hc : Ch F w w') (hF : ∀ x ∈ F, x < B ∨ w.heap.size ≤ x) : OwnP w' B V c ps vs := by
  have key : ∀ (v : Value) (n : Nat) (xs : List Value) (e : TypeId), w.ownsRow 0 e 1 v n xs → (∀ g, v.ownBlock = some g → B ≤ g) → w'.ownsRow 0 e 1 v n xs := fun v n xs e hv hB =>
    own_ch hv hc (fun g hg hm => by have h1 := hF g hm; have h2 := hB g hg; have h3 := (hv.lt g hg).2; omega)
  exact ⟨key _ _ _ _ h.outer h.from_, h.from_, h.rows.keep fun v n xs hv hB => key v n xs _ hv hB⟩

theorem convert_own {w : World} {n c : Nat} {A : Option Addr} {l : List UInt8} (h : w.ownsRow 0 5 1 (.slice A n c) n (bcs l)) (hn : l.length = n) :
    (convert 22 9 (.slice A n c)).run Try.prog w = .ok (.string ⟨l.toArray⟩) w := by
  cases A with
  | none =>
    have hl0 : n = 0 := by
      rcases h.2 with ⟨_, h0⟩ | ⟨g', _, _, hx, _⟩
      · exact h0
      · cases hx
    have hl : l = [] := List.eq_nil_of_length_eq_zero (by omega)
    subst hl
    exact convert_holds (Holds.nil w 0 none) hn
  | some ad => exact convert_holds (own_holds (g := ad.block) h (by intro h hh; simp [Value.ownBlock] at hh; exact hh.symm)) hn

theorem own_cap {w : World} {n c : Nat} {A : Option Addr} {e : TypeId} {xs : List Value} (h : w.ownsRow 0 e 1 (.slice A n c) n xs) : n ≤ c := by
  rcases h.2 with ⟨h1, h0⟩ | ⟨g', cap, _, hx, _, _, hnc, _⟩
  · omega
  · injection hx with _ _ hc
    omega
theorem own_max {w : World} {n c : Nat} {A : Option Addr} {e : TypeId} {xs : List Value} (h : w.ownsRow 0 e 1 (.slice A n c) n xs) : c ≤ maxLen := by
  rcases h.2 with ⟨h1, _⟩ | ⟨g', cap, _, hx, _, _, _, hm, _⟩
  · injection h1 with _ _ hc
    rw [hc]; exact Nat.zero_le _
  · injection hx with _ _ hc
    rw [hc]; exact hm

/-- What is made of parts. -/
def cutp (ps : List (List UInt8)) : List (List UInt8) := (ps.take 5).map (fun l => l.take 50)

theorem flat50 : ∀ (n : Nat) (ls : List (List UInt8)), ls.length ≤ n → ((ls.map (fun l => l.take 50)).flatten).length ≤ 50 * n
  | _, [], _ => by simp
  | 0, l :: ls, h => by simp at h
  | n + 1, l :: ls, h => by
    have := flat50 n ls (by simpa using h)
    simp only [List.map_cons, List.flatten_cons, List.length_append, List.length_take]
    omega
theorem cutp_flat (ps : List (List UInt8)) : (cutp ps).flatten.length ≤ 250 := by
  have := flat50 5 (ps.take 5) (by simp; omega)
  unfold cutp
  omega
theorem cutp_len (ps : List (List UInt8)) : (cutp ps).length ≤ 5 := by simp [cutp]; omega
theorem cutp_snoc (ps : List (List UInt8)) (k : Nat) (l : List UInt8) (h : ps[k]? = some l) (hk : k < 5) : cutp (ps.take (k + 1)) = cutp (ps.take k) ++ [l.take 50] := by
  unfold cutp
  rw [List.take_of_length_le (i := 5) (l := ps.take (k + 1)) (by simp; omega), List.take_of_length_le (i := 5) (l := ps.take k) (by simp; omega), List.take_add_one, h]
  simp
theorem cutp_take (ps : List (List UInt8)) (k : Nat) (h : ps.length ≤ k ∨ 5 ≤ k) : cutp (ps.take k) = cutp ps := by
  unfold cutp
  rcases h with h | h
  · rw [List.take_of_length_le h]
  · rw [List.take_take, Nat.min_eq_left h]

theorem cat_two (a b : List UInt8) : ByteArray.mk a.toArray ++ ByteArray.mk b.toArray = ByteArray.mk (a ++ b).toArray := by
  apply ByteArray.ext
  simp
theorem cat_flat (cs : List (List UInt8)) (p : List UInt8) : ByteArray.mk cs.flatten.toArray ++ ByteArray.mk p.toArray = ByteArray.mk (cs ++ [p]).flatten.toArray := by
  apply ByteArray.ext
  simp

def PartsPost (w : World) (ps : List (List UInt8)) (e : Ending) (w' : World) : Prop :=
  ∃ V c vs, e = .returned (.tuple #[.slice V (cutp ps).length c, .string ⟨(cutp ps).flatten.toArray⟩]) ∧ OwnP w' w.heap.size V c (cutp ps) vs ∧ Below w.heap.size w w'

set_option maxHeartbeats 2000000 in
set_option maxRecDepth 100000 in
theorem parts_any (P : Option Addr) (n c : Nat) (ps : List (List UInt8)) (w : World) (h : InParts w P ps) (hn : ps.length = n) (hnm : n ≤ 9223372036854775807) :
    Calls Try.prog 26 #[.slice P n c] w (PartsPost w ps) := by
  obtain ⟨i0, hi, hz0, hz1, hz2⟩ := info_parts info_byte
  obtain ⟨j0, hj, hy0, hy1, hy2⟩ := info_parts info_bytes
  have HP := Lib.hid h
  have HN := Lib.hid hn
  clear h hn
  go_enter Try.func26, Try.ntmps26
  go_wp2
  go_loopw [4, 5, 6] (fun v s i wr => ∃ (k : Nat) (V : Option Addr) (cv : Nat) (vs : List Value), k ≤ n ∧ k ≤ 5 ∧ i = .int .i64 k ∧ v = .slice V (cutp (ps.take k)).length cv ∧ s = .string ⟨(cutp (ps.take k)).flatten.toArray⟩ ∧ OwnP wr w.heap.size V cv (cutp (ps.take k)) vs ∧ Below w.heap.size w wr) (fun _ _ i _ => n - (intOf i).toNat)
  case atStart => exact ⟨0, none, 0, [], Nat.zero_le _, by omega, rfl, rfl, rfl, ⟨World.ownsRow_nil _ _ _ _, by simp [Value.ownBlock], ⟨rfl, by simp [cutp]⟩⟩, Below.refl _ _⟩
  case round =>
    obtain ⟨k, V, cv, vs, hk, hk5, rfl, rfl, rfl, hown, hb⟩ := hrel
    by_cases hlt : k < n ∧ k < 5
    · obtain ⟨hkn, hk5'⟩ := hlt
      have hpn := HN.out
      obtain ⟨l, hl⟩ : ∃ l, ps[k]? = some l := ⟨_, List.getElem?_eq_getElem (by omega)⟩
      obtain ⟨b, o, gl, Al, cl, hPe, hbw, hcell, hlc, hcm, hhl⟩ := HP.out k l hl
      subst hPe
      obtain ⟨m, hm50, hml, hmin⟩ := min_of l.length 50 50 rfl
      have hlm : (l.take m).length = m := by simp; omega
      have hlm' : l.take m = l.take 50 := by
        by_cases h50 : (50 : Int) < (l.length : Int)
        · rw [if_pos h50] at hmin
          rw [show m = 50 by omega]
        · rw [if_neg h50] at hmin
          rw [List.take_of_length_le (i := m) (by omega), List.take_of_length_le (i := 50) (by omega)]
      have hcr : wr.cell? ⟨b, o + k, none⟩ = some (.slice Al l.length cl) := (hb.cell (p := ⟨b, o + k, none⟩) hbw).trans hcell
      have hkz : (0 : Int) ≤ (k : Int) := by omega
      have hkn' : (k : Int) < (n : Int) := by omega
      have hmz : (0 : Int) ≤ (m : Int) := by omega
      have hmc : (m : Int) ≤ (cl : Int) := by omega
      have HO := Lib.hid hown
      have HB := Lib.hid hb
      have HLM := Lib.hid hlm
      have HLM' := Lib.hid hlm'
      have HHL := Lib.hid hhl
      have HL := Lib.hid hl
      clear hown hb hlm hlm' hhl hl hpn hcell
      have hcl5 : (cutp (ps.take k)).length ≤ 5 := by simp [cutp]; omega
      have hfl : (cutp (ps.take k)).flatten.length ≤ 250 := cutp_flat _
      generalize hcs : cutp (ps.take k) = cs at *
      have HCS := Lib.hid hcs
      clear hcs
      go_wp2
      refine region_plan [(true, 1), (true, 2), (true, 3), (true, 4), (true, 5), (true, 6), (true, 7), (true, 8), (true, 9), (true, 10), (true, 11), (false, 0), (false, 12), (true, 13)]
        (fun x => x.cell? ⟨b, o + k, none⟩ = some (.slice Al l.length cl)) (by kernel_rfl) (by kernel_rfl) (by kernel_rfl) rfl hcr ?_
      iterate 11 (refine Plan.take (v := ?_) rfl (by rfl) ?_ ?_; rotate_left 1; (focus (intro x hx; go_simp <;> with_reducible rfl)); simp only [Act.put, List.setIfInBounds_toArray, List.set_cons_zero, List.set_cons_succ])
      refine Plan.loud rfl (fun K hK => ?_)
      go_simp
      have hz : w.heap.size ≤ wr.heap.size := HB.out.size
      have hb1 : Below w.heap.size w (wr.alloc (.cells #[] 5)).drew := (HB.out.alloc hz _).drew
      have hch1 : Ch [] wr (wr.alloc (.cells #[] 5)).drew := ((Ch.refl [] wr).alloc _).drew
      have he1 : (wr.alloc (.cells #[] 5)).drew.ownsRow 0 5 1 (.slice (some ⟨wr.heap.size, 0, none⟩) 0 0) 0 [] := World.ownsRow_made wr #[] 0 (Nat.zero_le _) (Nat.zero_le _) rfl
      have hh1 : Holds (wr.alloc (.cells #[] 5)).drew gl Al (bcs (l.take m)) := by
        rw [show bcs (l.take m) = (bcs l).take m by simp [bcs]]
        exact (HHL.out.take m).keep (Ch.of_below hb1) (by simp)
      have hcr1 : (wr.alloc (.cells #[] 5)).drew.cell? ⟨b, o + k, none⟩ = some (.slice Al l.length cl) := (hb1.cell (p := ⟨b, o + k, none⟩) hbw).trans ((HB.out.cell (p := ⟨b, o + k, none⟩) hbw).symm.trans hcr)
      refine hK.out _ _ _ (fun x hx => hx) hcr1 ?_
      clear hK K hcr1
      have hs1 : (wr.alloc (.cells #[] 5)).drew.heap.size = wr.heap.size + 1 := by simp
      generalize (wr.alloc (.cells #[] 5)).drew = W1 at *
      have HS1 := Lib.hid hs1
      clear hs1
      refine Plan.loud rfl (fun K hK => ?_)
      rw [if_pos (by rfl)]
      refine wp_append_holds (.tmp 18) (.tmp 29) 22 rfl 5 i0 (.int .u8 0) 1 Try.underlying22 hi hz0 hz1 hz2 rfl (.slice (some ⟨wr.heap.size, 0, none⟩) 0 0) 0 [] rfl he1 gl Al m cl (bcs (l.take m)) rfl (by rw [bcs_length]; exact HLM.out) hh1 (bcs_one _) (by unfold maxLen; omega) (by omega) ?_
      intro A5 c5 w5 hown5 hgrow5 hat5
      simp only [Nat.zero_add, List.nil_append] at hown5 hat5
      have hb5 : Below w.heap.size w w5 := hb1.grown hgrow5 hb1.size (by intro g hg; simp [Value.ownBlock] at hg; omega)
      have hch5 : Ch [] wr w5 := hch1.grown hgrow5 (by intro g hg; simp [Value.ownBlock] at hg; omega)
      have ho5 : OwnP w5 w.heap.size V cv cs vs := HO.out.keep hch5 (by simp)
      have hcr5 : w5.cell? ⟨b, o + k, none⟩ = some (.slice Al l.length cl) := (hb5.cell (p := ⟨b, o + k, none⟩) hbw).trans ((HB.out.cell (p := ⟨b, o + k, none⟩) hbw).symm.trans hcr)
      have hfr5 : ∀ g, (Value.slice A5 m c5).ownBlock = some g → w.heap.size ≤ g := by
        intro g hg
        rw [hg] at hat5
        have := HS1.out
        simp [Value.ownBlock] at hat5
        omega
      refine hK.out _ _ _ (fun x hx => hx) hcr5 ?_
      clear hK K hcr5 hgrow5 hat5 hb1 he1 hh1 hch1 hch5 hcr
      have HLC : Hid ((l.take m).length = m) := HLM.out
      have HO5 := Lib.hid ho5
      have HB5 := Lib.hid hb5
      have HW5 := Lib.hid hown5
      have HF5 := Lib.hid hfr5
      clear ho5 hb5 hown5 hfr5 HO HB
      have hsum : ¬ 9223372036854775807 < cs.flatten.length + (l.take m).length := by rw [HLC.out]; omega
      have hbig : m ≤ 50 := hm50
      generalize hpp : l.take m = p at *
      have HPP := Lib.hid hpp
      clear hpp
      generalize hFF : cs.flatten = F at *
      have HFF := Lib.hid hFF
      clear hFF
      simp only [Nat.zero_add]
      iterate 1 (refine Plan.take (v := ?_) rfl (by rfl) ?_ ?_; rotate_left 1; (focus (intro x hx; go_simp <;> with_reducible rfl)); simp only [Act.put, List.setIfInBounds_toArray, List.set_cons_zero, List.set_cons_succ])
      refine Plan.done ?_
      go_wp2_with (at_builtin; refine wpList_append_holds rfl (.tmp 31) (.tmp 33) 56 rfl 22 j0 (.slice none 0 0) 24 Try.underlying56 hj hy0 hy1 hy2 rfl (.slice V cs.length cv) cs.length vs rfl (HO5.out.outer.alloc _) w5.heap.size (some ⟨w5.heap.size, 0, none⟩) 1 1 [.slice A5 m c5] rfl rfl (Holds.of_row (cs := [.slice A5 m c5]) (heap_alloc_new w5 _)) (by simp [Value.oneCell']) (by unfold maxLen; omega) (by omega) ?_; intro V6 c6 w6 hown6 hgrow6 hat6; have hp6 := own_far hgrow6 rfl (HW5.out.alloc (.cells #[.slice A5 m c5] 22)) (HO5.out.outer.alloc (.cells #[.slice A5 m c5] 22)) (by decide); have hcv6 := convert_own hp6 HLC.out; have hjn := cat_two F p)
      have hc1 : cutp (ps.take (k + 1)) = cs ++ [p] := by rw [cutp_snoc ps k l HL.out hk5', HCS.out, ← HLM'.out]
      have hpl : p.length = m := HLC.out
      have hb6 : Below w.heap.size w w6 := (HB5.out.alloc HB5.out.size _).grown hgrow6 (by have := HB5.out.size; simp; omega) (fun g hg => HO5.out.from_ g hg)
      have ho6 : OwnP w6 w.heap.size V6 c6 (cs ++ [p]) (vs ++ [.slice A5 m c5]) := by
        refine ⟨by simpa using hown6, ?_, ?_⟩
        · intro g hg
          simp only [List.length_append, List.length_cons, List.length_nil] at hg
          rcases hat6 with h | h
          · exact HO5.out.from_ g (by rw [← h]; exact hg)
          · have h5 := HB5.out.size
            rw [h] at hg
            injection hg with hg
            simp at hg
            omega
        · refine (HO5.out.rows.keep fun v n xs hv _ => own_far hgrow6 rfl (hv.alloc _) (HO5.out.outer.alloc _) (by decide)).snoc ?_ HF5.out
          rw [hpl]
          exact hp6
      clear hp6 hcv6 hown6 hgrow6 hat6 hjn
      go_roundw
      case rel => exact ⟨k + 1, V6, c6, _, by omega, by omega, by go_num, by rw [hc1]; simp, by rw [hc1]; simp [HFF.out], by rw [hc1]; exact ho6, hb6⟩
      case measure => simp [intOf]; omega
    · have hend : cutp (ps.take k) = cutp ps := cutp_take ps k (by have := HN.out; omega)
      rw [hend] at hown ⊢
      have HO := Lib.hid hown
      clear hown hend
      by_cases hkn : k < n
      all_goals
        have hex : True := trivial
        go_wp2
        go_ret2
        exact ⟨V, cv, vs, rfl, HO.out, hb⟩

end Go.Proofs.Ytlaoheflblkgaaa
