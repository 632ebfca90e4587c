/-
  lamplightlaw01.OctetsNumbers answers true, and turns nothing that was there: the walk.
-/
import Derived.Test.YtlaoheflblkgaaaShown
import Derived.Test.YtlaoheflblkgaaaNums
import Derived.Test.YtlaoheflblkgaaaEager
namespace Go.Proofs.Ytlaoheflblkgaaa
set_option linter.unusedVariables false
set_option linter.unusedSimpArgs false
open Go.RowKit

/-- Where the readers, writers and bytes of the loop lie: the one that grows last is Y. -/
structure Apart (G P gp Q gq X gx Y gy : Nat) : Prop where
  a : G ≠ P ∧ G ≠ gp ∧ G ≠ Q ∧ G ≠ gq ∧ P ≠ Q ∧ P ≠ gq ∧ gp ≠ Q
  b : G < X ∧ P < X ∧ gp < X ∧ Q < X ∧ gq < X ∧ X < Y
  c : (gx = X ∨ Y < gx) ∧ (gy = Y ∨ Y < gy) ∧ gx ≠ gy

/-- How many bytes the loop has taken by two, behind k rounds. -/
def tw (k : Nat) : Nat := 2 * min k 2
theorem tw_less {k : Nat} (h : k < 2) : tw (k + 1) = tw k + 2 ∧ tw k + 2 ≤ 4 := by unfold tw; omega
theorem tw_more {k : Nat} (h : ¬ k < 2) : tw (k + 1) = tw k := by unfold tw; omega

/-- The loop's state: the reader P has taken a bytes, the writer X has b, the reader Q has taken c, the writer Y has d. -/
structure NSt (w wr : World) (L : List UInt8) (G P gp Q gq X Y a b c d : Nat) : Prop where
  ex : ∃ gx gy, Wtr wr X gx (L.take b) ∧ Wtr wr Y gy (L.take d) ∧ Apart G P gp Q gq X gx Y gy
  rp : Rdr wr P gp (L.drop a)
  rq : Rdr wr Q gq (L.drop c)
  row : Row wr G L
  below : Below w.heap.size w wr
  from_ : w.heap.size ≤ G ∧ w.heap.size ≤ P ∧ w.heap.size ≤ gp ∧ w.heap.size ≤ Q ∧ w.heap.size ≤ gq ∧ w.heap.size ≤ X

section
variable {w wr : World} {L : List UInt8} {G P gp Q gq X Y a b c d : Nat}

def NStPost (w : World) (v : Value) (L : List UInt8) (G P gp Q gq X Y a b c d : Nat) (e : Ending) (w' : World) : Prop := e = .returned v ∧ NSt w w' L G P gp Q gq X Y a b c d

theorem NSt.p16 (h : NSt w wr L G P gp Q gq X Y a b c d) (ha : a + 2 ≤ L.length) :
    Calls Try.prog 15 #[.pointer (some ⟨P, 0, none⟩)] wr (NStPost w (.tuple #[.int .u16 (num ((L.drop a).take 2) : Nat), .int .i64 0]) L G P gp Q gq X Y (a + 2) b c d) := by
  refine (u16_ok P gp _ wr h.rp (by simp; omega)).mono ?_
  rintro e w' ⟨he, hr, hc⟩
  obtain ⟨gx, gy, hx, hy, hA⟩ := h.ex
  obtain ⟨h1, h2, h3⟩ := hA
  rw [List.drop_drop] at hr
  refine ⟨he, ⟨gx, gy, hx.keep hc (by simp; omega) (by simp; omega), hy.keep hc (by simp; omega) (by simp; omega), ⟨h1, h2, h3⟩⟩, hr, h.rq.keep hc (by simp; omega) (by simp; omega), h.row.keep hc (by simp; omega), h.below.trans (hc.belowAt (by simp; have := h.from_; omega) h.below.size), h.from_⟩

theorem NSt.q8 (h : NSt w wr L G P gp Q gq X Y a b c d) (hc : c + 1 ≤ L.length) :
    Calls Try.prog 13 #[.pointer (some ⟨Q, 0, none⟩)] wr (NStPost w (.tuple #[.int .u8 (num ((L.drop c).take 1) : Nat), .int .i64 0]) L G P gp Q gq X Y a b (c + 1) d) := by
  refine (u8_ok Q gq _ wr h.rq (by simp; omega)).mono ?_
  rintro e w' ⟨he, hr, hc⟩
  obtain ⟨gx, gy, hx, hy, hA⟩ := h.ex
  obtain ⟨h1, h2, h3⟩ := hA
  rw [List.drop_drop] at hr
  refine ⟨he, ⟨gx, gy, hx.keep hc (by simp; omega) (by simp; omega), hy.keep hc (by simp; omega) (by simp; omega), ⟨h1, h2, h3⟩⟩, h.rp.keep hc (by simp; omega) (by simp; omega), hr, h.row.keep hc (by simp; omega), h.below.trans (hc.belowAt (by simp; have := h.from_; omega) h.below.size), h.from_⟩

theorem NSt.x16 (h : NSt w wr L G P gp Q gq X Y a b c d) (hL : L.length ≤ 4) (hb : b + 2 ≤ L.length) (v : Nat) (hv : v = num ((L.drop b).take 2)) :
    Calls Try.prog 24 #[.pointer (some ⟨X, 0, none⟩), .int .u16 (v : Int)] wr (NStPost w (.pointer (some ⟨X, 0, none⟩)) L G P gp Q gq X Y a (b + 2) c d) := by
  subst hv
  obtain ⟨gx, gy, hx, hy, hA⟩ := h.ex
  obtain ⟨h1, h2, h3⟩ := hA
  have hlt := num_take_lt (L.drop b) 2
  refine (wu16_any X gx _ (num ((L.drop b).take 2) : Nat) wr hx (by simp; omega) (by omega) (by omega)).mono ?_
  rintro e w' ⟨he, gx', hg', hw', hc⟩
  rw [Int.toNat_natCast, be16_more L b hb] at hw'
  have hl := hy.lt
  have hf := h.from_
  have hsz := h.below.size
  have hrl := h.row.lt
  have hpl := h.rp.lt
  have hql := h.rq.lt
  refine ⟨he, ⟨gx', gy, hw', hy.keep hc (by simp; omega) (by simp; omega), ⟨h1, h2, by omega⟩⟩, h.rp.keep hc (by simp; omega) (by simp; omega), h.rq.keep hc (by simp; omega) (by simp; omega), h.row.keep hc (by simp; omega), h.below.trans (hc.belowAt (by simp; omega) h.below.size), h.from_⟩

theorem NSt.y8 (h : NSt w wr L G P gp Q gq X Y a b c d) (hL : L.length ≤ 4) (hb : d + 1 ≤ L.length) (v : Nat) (hv : v = num ((L.drop d).take 1)) :
    Calls Try.prog 22 #[.pointer (some ⟨Y, 0, none⟩), .int .u8 (v : Int)] wr (NStPost w (.pointer (some ⟨Y, 0, none⟩)) L G P gp Q gq X Y a b c (d + 1)) := by
  subst hv
  obtain ⟨gx, gy, hx, hy, hA⟩ := h.ex
  obtain ⟨h1, h2, h3⟩ := hA
  have hlt := num_take_lt (L.drop d) 1
  refine (wu8_any Y gy _ (num ((L.drop d).take 1) : Nat) wr hy (by simp; omega) (by omega) (by omega)).mono ?_
  rintro e w' ⟨he, gy', hg', hw', hc⟩
  rw [Int.toNat_natCast, be8_more L d hb] at hw'
  have hl := hx.lt
  have hl' := hy.lt
  have hf := h.from_
  have hsz := h.below.size
  have hrl := h.row.lt
  have hpl := h.rp.lt
  have hql := h.rq.lt
  refine ⟨he, ⟨gx, gy', hx.keep hc (by simp; omega) (by simp; omega), hw', ⟨h1, h2, by omega⟩⟩, h.rp.keep hc (by simp; omega) (by simp; omega), h.rq.keep hc (by simp; omega) (by simp; omega), h.row.keep hc (by simp; omega), h.below.trans (hc.belowAt (by simp; omega) h.below.size), h.from_⟩
end

/-- Behind the loop: both writers have L, and so has G. -/
structure NEnd (w wr : World) (L : List UInt8) (G X gx Y gy : Nat) : Prop where
  x : Wtr wr X gx L
  y : Wtr wr Y gy L
  row : Row wr G L
  below : Below w.heap.size w wr
  len : L.length = 4

def NEndPost (w wr : World) (L : List UInt8) (G X gx Y gy : Nat) (e : Ending) (w' : World) : Prop :=
  ∃ G', e = .returned (.slice (some ⟨G', 0, none⟩) 4 4) ∧ (convert 22 9 (.slice (some ⟨G', 0, none⟩) 4 4)).run Try.prog w' = .ok (.string ⟨L.toArray⟩) w' ∧
    (convert 22 9 (.slice (some ⟨G, 0, none⟩) 4 4)).run Try.prog w' = .ok (.string ⟨L.toArray⟩) w' ∧ NEnd w w' L G X gx Y gy ∧ Row w' G' L ∧ Below wr.heap.size wr w'
theorem NEnd.conv {w wr : World} {L : List UInt8} {G X gx Y gy : Nat} (h : NEnd w wr L G X gx Y gy) : (convert 22 9 (.slice (some ⟨G, 0, none⟩) 4 4)).run Try.prog wr = .ok (.string ⟨L.toArray⟩) wr := convert_len h.row h.len
theorem NEnd.drew {w wr : World} {L : List UInt8} {G X gx Y gy : Nat} (h : NEnd w wr L G X gx Y gy) : NEnd w wr.drew L G X gx Y gy :=
  have hc : Ch [] wr wr.drew := (Ch.refl [] wr).drew
  ⟨h.x.keep hc (by simp) (by simp), h.y.keep hc (by simp) (by simp), h.row.keep hc (by simp), h.below.drew, h.len⟩
theorem NEnd.keep {w wr w' : World} {L : List UInt8} {G X gx Y gy : Nat} (h : NEnd w wr L G X gx Y gy) (hb : Below wr.heap.size wr w') : NEnd w w' L G X gx Y gy :=
  have hc := Ch.of_below hb
  ⟨h.x.keep hc (by simp) (by simp), h.y.keep hc (by simp) (by simp), h.row.keep hc (by simp), h.below.trans (hb.mono h.below.size), h.len⟩
theorem NEnd.done {w wr : World} {L : List UInt8} {G X gx Y gy Z gz : Nat} (h : NEnd w wr L G X gx Y gy) (hz : Wtr wr Z gz L) :
    Calls Try.prog 28 #[.pointer (some ⟨Z, 0, none⟩)] wr (NEndPost w wr L G X gx Y gy) := by
  refine (wdone_any Z gz L wr hz (by rw [h.len]; omega)).mono ?_
  rintro e w' ⟨G', hG', he, hrow, hb⟩
  have h' := h.keep hb
  rw [h.len] at he
  exact ⟨G', he, convert_len hrow h.len, h'.conv, h', hrow, hb⟩

set_option maxHeartbeats 4000000 in
set_option maxRecDepth 100000 in
theorem numbers_walk (n : Int) (w : World) (hn0 : 0 ≤ n) (hn1 : n < 4294967296) :
    Calls Try.prog 8 #[.int .u32 n] w fun e w' => e = .returned (.bool true) ∧ Below w.heap.size w w' := by
  obtain ⟨L, hL⟩ : ∃ L, L = [] ++ be32 n.toNat := ⟨_, rfl⟩
  have HLn : Hid ((num L : Int) = n) := by
    show (num L : Int) = n
    rw [hL, List.nil_append, num_be32 _ (by omega)]; omega
  have HLl : Hid (L.length = 4) := by show L.length = 4; rw [hL]; rfl
  have HL := Lib.hid hL
  clear hL
  go_enter Try.func8, Try.ntmps8
  go_wp2_with fail
  refine (shown_any w).mono ?_
  rintro e w1 ⟨rfl, hb1⟩
  go_wp2_with fail
  refine (wu32_any _ _ [] n _ (Wtr.new w1) (by simp) hn0 hn1).mono ?_
  rintro e w2 ⟨rfl, g2, hg2, hw2, hc2⟩
  rw [← HL.out] at hw2
  have hb2 : Below w.heap.size w w2 := (hb1.alloc hb1.size _).trans (hc2.belowAt (by simp [hb1.size]) (by have := hb1.size; simp; omega))
  clear hc2 hg2 hb1
  go_wp2_with fail
  refine (wdone_any _ g2 L w2 hw2 (by rw [HLl.out]; omega)).mono ?_
  rintro e w3 ⟨G, hG, rfl, hrow, hb3'⟩
  have hb3 : Below w.heap.size w w3 := hb2.trans (hb3'.mono hb2.size)
  have hG3 := hrow.lt
  rw [HLl.out]
  have hGw : w.heap.size ≤ G := Nat.le_trans hb2.size hG
  clear hw2 hb3' hb2 hG
  go_wp2_with fail
  refine (read_len G _ 4 4 L w3 hrow.holds HLl.out (by omega)).mono ?_
  rintro e w4 ⟨P, gp, hP, hgp, rfl, hp4, hb4'⟩
  have hb4 : Below w.heap.size w w4 := hb3.trans (hb4'.mono hb3.size)
  have hrow4 := hrow.keep (Ch.of_below hb4') (by simp)
  have hP4 := hp4.lt
  have hgp4 := hp4.lt2 (by rw [HLl.out]; omega)
  go_wp2_with fail
  refine (read_len G _ 4 4 L w4 hrow4.holds HLl.out (by omega)).mono ?_
  rintro e w5 ⟨Q, gq, hQ, hgq, rfl, hq5, hb5'⟩
  have hb5 : Below w.heap.size w w5 := hb4.trans (hb5'.mono hb4.size)
  have hrow5 := hrow4.keep (Ch.of_below hb5') (by simp)
  have hp5 := hp4.keep (Ch.of_below hb5') (by simp) (by simp)
  have hQ5 := hq5.lt
  have hgq5 := hq5.lt2 (by rw [HLl.out]; omega)
  have hpn := hp4.ne
  have hqn := hq5.ne
  have hs45 := hb5'.size
  have hG4 := hrow4.lt
  have HB := Lib.hid hb5
  clear hrow hrow4 hp4 hb5' hb4' hb4 hb5
  have hch : Ch [] w5 ((w5.alloc (.cells #[.slice none 0 0] 55)).alloc (.cells #[.slice none 0 0] 55)) := ((Ch.refl [] w5).alloc _).alloc _
  have hX0 := (Wtr.new w5).keep ((Ch.refl [] _).alloc (.cells #[.slice none 0 0] 55)) (by simp) (by simp)
  have hY0 := Wtr.new (w5.alloc (.cells #[.slice none 0 0] 55))
  rw [show (w5.alloc (.cells #[.slice none 0 0] 55)).heap.size = w5.heap.size + 1 by simp] at hY0
  have hR0 := hrow5.keep hch (by simp)
  have hP0 := hp5.keep hch (by simp) (by simp)
  have hQ0 := hq5.keep hch (by simp) (by simp)
  have hS0 : NSt w ((w5.alloc (.cells #[.slice none 0 0] 55)).alloc (.cells #[.slice none 0 0] 55)) L G P gp Q gq w5.heap.size (w5.heap.size + 1) 0 0 0 0 := by
    have hz := hb3.size
    have hz5 := HB.out.size
    exact ⟨⟨_, _, by simpa using hX0, by simpa using hY0, ⟨by omega, by omega, by omega⟩⟩, by simpa using hP0, by simpa using hQ0, hR0, (HB.out.alloc hz5 _).alloc (by simp; omega) _, by omega⟩
  have HS0 := Lib.hid hS0
  clear hS0 hX0 hY0 hR0 hP0 hQ0 hch hrow5 hp5 hq5 hb3
  go_wp2
  generalize w5.heap.size + 1 = Y at *
  generalize w5.heap.size = X at *
  generalize (w5.alloc (.cells #[.slice none 0 0] 55)).alloc (.cells #[.slice none 0 0] 55) = w6 at *
  clear hG3 hP hgp hP4 hgp4 hQ hgq hQ5 hgq5 hpn hqn hs45 hG4 HB
  go_loopw [10, 11, 12] (fun two one i wr => ∃ k : Nat, k ≤ 4 ∧ i = .int .i64 k ∧ two = .int .u32 (num (L.take (tw k)) : Nat) ∧ one = .int .u32 (num (L.take k) : Nat) ∧ NSt w wr L G P gp Q gq X Y (tw k) (tw k) k k) (fun _ _ i _ => 4 - (intOf i).toNat)
  case atStart => exact ⟨0, by omega, rfl, rfl, rfl, HS0.out⟩
  case round =>
    obtain ⟨k, hk, rfl, rfl, rfl, hst⟩ := hrel
    have HS := Lib.hid hst
    clear hst
    by_cases h4 : k < 4
    · have hLl := HLl.out
      obtain ⟨V1, hV1⟩ : ∃ V, V = num ((L.drop k).take 1) := ⟨_, rfl⟩
      have HV1 := Lib.hid hV1
      have hV1b : V1 < 256 := by rw [hV1]; have := num_take_lt (L.drop k) 1; omega
      have hA1b : num (L.take k) < 16777216 := num_take_small L k (by omega)
      have HA1 := Lib.hid (num_more1 L k (by omega))
      rw [← hV1] at HA1
      have HC1 : Hid (∀ wx : World, Row wx G L → wx.cell? ⟨G, k, none⟩ = some (.int .u8 (V1 : Int))) := fun wx hr => by
        rw [hr.cell k (by omega), hV1, take1_of L k (by omega), num_one]
      have hkz : (0 : Int) ≤ (k : Int) := by omega
      have hk4 : (k : Int) < 4 := by omega
      clear hV1 hLl
      by_cases h2 : k < 2
      · have htw := tw_less h2
        have hLl := HLl.out
        obtain ⟨V2, hV2⟩ : ∃ V, V = num ((L.drop (tw k)).take 2) := ⟨_, rfl⟩
        have HV2 := Lib.hid hV2
        have hV2b : V2 < 65536 := by rw [hV2]; have := num_take_lt (L.drop (tw k)) 2; omega
        have hA2b : num (L.take (tw k)) < 65536 := by
          have h := num_take_lt L (tw k)
          have : 256 ^ tw k ≤ 256 ^ 2 := Nat.pow_le_pow_right (by omega) (by omega)
          omega
        have HA2 := Lib.hid (num_more2 L (tw k) (by omega))
        rw [← hV2] at HA2
        have HT := Lib.hid htw
        clear hV2 hLl htw
        go_wp2_with fail
        refine (HS.out.p16 (by rw [HLl.out]; exact HT.out.2)).mono ?_
        rintro e w7 ⟨rfl, hs7⟩
        rw [← HV2.out]
        go_wp2_with fail
        refine (hs7.x16 (by rw [HLl.out]; omega) (by rw [HLl.out]; exact HT.out.2) V2 HV2.out).mono ?_
        rintro e w8 ⟨rfl, hs8⟩
        clear hs7
        go_wp2_with fail
        refine (hs8.q8 (by rw [HLl.out]; omega)).mono ?_
        rintro e w9 ⟨rfl, hs9⟩
        rw [← HV1.out]
        have hc9 := HC1.out _ hs9.row
        clear hs8
        go_wp2_with fail
        refine (hs9.y8 (by rw [HLl.out]; omega) (by rw [HLl.out]; omega) V1 HV1.out).mono ?_
        rintro e w10 ⟨rfl, hs10⟩
        clear hs9 hc9
        go_wp2
        go_roundw
        case rel =>
          refine ⟨k + 1, by omega, by go_num, ?_, ?_, ?_⟩
          · rw [HT.out.1, HA2.out]; go_num
          · rw [HA1.out]; go_num
          · rw [HT.out.1]; exact hs10
        case measure => simp [intOf]; omega
      · have HT := Lib.hid (tw_more h2)
        go_wp2_with fail
        refine (HS.out.q8 (by rw [HLl.out]; omega)).mono ?_
        rintro e w9 ⟨rfl, hs9⟩
        rw [← HV1.out]
        have hc9 := HC1.out _ hs9.row
        go_wp2_with fail
        refine (hs9.y8 (by rw [HLl.out]; omega) (by rw [HLl.out]; omega) V1 HV1.out).mono ?_
        rintro e w10 ⟨rfl, hs10⟩
        clear hs9 hc9
        go_wp2
        go_roundw
        case rel =>
          refine ⟨k + 1, by omega, by go_num, ?_, ?_, ?_⟩
          · rw [HT.out]
          · rw [HA1.out]; go_num
          · rw [HT.out]; exact hs10
        case measure => simp [intOf]; omega
    · have hk4 : k = 4 := by omega
      subst hk4
      have hLl := HLl.out
      have e4 : L.take 4 = L := List.take_of_length_le (by omega)
      have et : tw 4 = 4 := rfl
      have hst := HS.out
      rw [et] at hst ⊢
      rw [e4]
      obtain ⟨gx, gy, hx, hy, hA⟩ := hst.ex
      rw [e4] at hx hy
      have hrow := hst.row
      have hbel := hst.below
      have hN : (num L : Int) = n := HLn.out
      rw [hN]
      have hend : NEnd w wr L G X gx Y gy := ⟨hx, hy, hrow, hbel, hLl⟩
      clear hLl e4 et hst hx hy hrow hbel hN HS hA
      have hcv := hend.drew.conv
      have hst := hend.drew
      clear hend
      go_wp2
      refine region_plan [(true, 0), (true, 1), (true, 2), (true, 3), (true, 4), (true, 5), (true, 6), (true, 7), (true, 8), (true, 9), (true, 10), (true, 11), (true, 12), (true, 15), (true, 16), (false, 13), (true, 14), (true, 17), (true, 18), (true, 19), (true, 20), (true, 23), (true, 24), (false, 21), (true, 22), (true, 25), (true, 26), (true, 27)] (fun x => (convert 22 9 (.slice (some ⟨G, 0, none⟩) 4 4)).run Try.prog x = .ok (.string ⟨L.toArray⟩) x) (by kernel_rfl) (by kernel_rfl) (by kernel_rfl) rfl hcv ?_
      iterate 15 (refine Plan.take (v := ?_) rfl (by rfl) ?_ ?_; rotate_left 1; (focus (intro x hx; go_simp <;> with_reducible rfl)); simp only [Act.put, List.setIfInBounds_toArray, List.set_cons_zero, List.set_cons_succ])
      refine Plan.loud rfl (fun K hK => ?_)
      go_simp
      refine (NEnd.done (Z := X) hst hst.x).mono ?_
      rintro e w11 ⟨G11, rfl, hcv11, hcvb, hst11, hrow11, _⟩
      refine hK.out (fun x => (convert 22 9 (.slice (some ⟨G, 0, none⟩) 4 4)).run Try.prog x = .ok (.string ⟨L.toArray⟩) x ∧ (convert 22 9 (.slice (some ⟨G11, 0, none⟩) 4 4)).run Try.prog x = .ok (.string ⟨L.toArray⟩) x) _ _ (fun x hx => hx.1) ⟨hcvb, hcv11⟩ ?_
      clear hK K hcv11 hcvb hcv hst
      iterate 7 (refine Plan.take (v := ?_) rfl (by rfl) ?_ ?_; rotate_left 1; (focus (intro x hx; go_simp <;> with_reducible rfl)); simp only [Act.put, List.setIfInBounds_toArray, List.set_cons_zero, List.set_cons_succ])
      refine Plan.loud rfl (fun K hK => ?_)
      go_simp
      refine (NEnd.done (Z := Y) hst11 hst11.y).mono ?_
      rintro e w12 ⟨G12, rfl, hcv12, hcvb, hst12, _, hb12⟩
      have hcv11' := convert_len (hrow11.keep (Ch.of_below hb12) (by simp)) HLl.out
      refine hK.out (fun x => ((convert 22 9 (.slice (some ⟨G, 0, none⟩) 4 4)).run Try.prog x = .ok (.string ⟨L.toArray⟩) x ∧ (convert 22 9 (.slice (some ⟨G11, 0, none⟩) 4 4)).run Try.prog x = .ok (.string ⟨L.toArray⟩) x) ∧ (convert 22 9 (.slice (some ⟨G12, 0, none⟩) 4 4)).run Try.prog x = .ok (.string ⟨L.toArray⟩) x) _ _ (fun x hx => hx.1) ⟨⟨hcvb, hcv11'⟩, hcv12⟩ ?_
      clear hK K hcv12 hcvb hcv11' hb12 hrow11
      iterate 4 (refine Plan.take (v := ?_) rfl (by rfl) ?_ ?_; rotate_left 1; (focus (intro x hx; go_simp <;> with_reducible rfl)); simp only [Act.put, List.setIfInBounds_toArray, List.set_cons_zero, List.set_cons_succ])
      refine Plan.done ?_
      go_wp2
      go_ret
      exact ⟨rfl, hst12.below⟩

end Go.Proofs.Ytlaoheflblkgaaa
