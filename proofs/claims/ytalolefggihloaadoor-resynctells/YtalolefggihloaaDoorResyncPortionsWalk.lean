/-
  lamplightlaw05.ResyncPortions: whatever it is asked, true; nothing that was there is turned.
-/
import Derived.Test.YtalolefggihloaaDoorResyncEq
import Derived.Laws.Cover1
namespace Go.Proofs.YtalolefggihloaaDoor
set_option linter.unusedVariables false
set_option linter.unusedSimpArgs false
open Go.RowKit

theorem Told.holds {w : World} {B n c : Nat} {A : Option Addr} {ts : List Tf} (h : Told w B (.slice A n c) n ts) : ∃ g, Holds w g A (tcs ts) := by
  have hn := h.len
  rcases h.own.2 with ⟨hv, h0⟩ | ⟨g, cap, cur, hv, hb, hh, h1, h2, h3, h4⟩
  · refine ⟨0, fun hp => ?_⟩
    rw [tcs_length] at hp
    omega
  · injection hv with hA _ _
    subst hA
    refine ⟨g, fun _ => ⟨(Array.getElem?_eq_some_iff.1 hh).1, 0, rfl, fun j u hu => ?_⟩⟩
    have := h.own.cells (g := g) rfl j u hu
    rw [addr_add] at this
    exact this
theorem Told.news {w : World} {B n : Nat} {v : Value} {ts : List Tf} (h : Told w B v n ts) : (tcs ts).length = n * 6 := by rw [tcs_length, h.len]
theorem Told.mono {w : World} {B B' n : Nat} {v : Value} {ts : List Tf} (h : Told w B v n ts) (hB : B' ≤ B) : Told w B' v n ts := by
  refine ⟨⟨h.own.1, ?_⟩, h.len, fun t ht => (h.in_ t ht).mono hB, h.apart⟩
  rcases h.own.2 with hn | ⟨g, cap, cur, rfl, hb, r⟩
  · exact .inl hn
  · exact .inr ⟨g, cap, cur, rfl, Nat.le_trans hB hb, r⟩
/-- Frames of an earlier world, and later ones: apart. -/
theorem told_apart {x y : World} {B B' n m : Nat} {v v' : Value} {ts us : List Tf} (h : Told x B v n ts) (h' : Told y B' v' m us) (hB : x.heap.size ≤ B') : (ts ++ us).Pairwise Tf.Apart := by
  rw [List.pairwise_append]
  refine ⟨h.apart, h'.apart, fun a ha b hb hp1 hp2 => ?_⟩
  have h1 := h.lt a ha hp1
  have h2 := ((h'.in_ b hb).row hp2).2.2.2
  omega

/-- Three decoders of one's own, and bytes that were there. -/
structure P3 (w : World) (D E F : Nat) (d e f : Dc) (N : Nat) (g : Nat) (A : Option Addr) (l : List UInt8) (x : World) : Prop where
  tab : Tab x
  one : Dec x D d N
  two : Dec x E e N
  three : Dec x F f N
  holds : Holds x g A (bcs l)
  below : Below w.heap.size w x
  le : w.heap.size ≤ D
  de : D < E
  ef : E < F
  lt : 0 < l.length → g < w.heap.size
theorem P3.step {w x y : World} {D E F N g : Nat} {d e f : Dc} {A : Option Addr} {l : List UInt8} (h : P3 w D E F d e f N g A l x) (hb : Below x.heap.size x y) : P3 w D E F d e f N g A l y :=
  ⟨h.tab.keep (Ch.of_below hb) (by simp), h.one.keep (Ch.of_below hb) (by simp), h.two.keep (Ch.of_below hb) (by simp), h.three.keep (Ch.of_below hb) (by simp), h.holds.keep (Ch.of_below hb) (by simp), h.below.trans (hb.mono h.below.size), h.le, h.de, h.ef, h.lt⟩
theorem P3.turn1 {w x y : World} {D E F N M g : Nat} {d e f d' : Dc} {A : Option Addr} {l : List UInt8} (h : P3 w D E F d e f N g A l x) (ht : Tab y) (hd : Dec y D d' M) (hc : Ch [D] x y) (hM : N ≤ M) : P3 w D E F d' e f M g A l y := by
  have h1 := h.le
  have h2 := h.de
  have h3 := h.ef
  exact ⟨ht, hd, (h.two.keep hc (by simp; omega)).mono hM, (h.three.keep hc (by simp; omega)).mono hM, h.holds.keep hc (fun hp => by rw [bcs_length] at hp; have := h.lt hp; simp; omega), h.below.trans (hc.belowAt (by simpa using h1) h.below.size), h1, h2, h3, h.lt⟩
theorem P3.turn2 {w x y : World} {D E F N M g : Nat} {d e f e' : Dc} {A : Option Addr} {l : List UInt8} (h : P3 w D E F d e f N g A l x) (ht : Tab y) (hd : Dec y E e' M) (hc : Ch [E] x y) (hM : N ≤ M) : P3 w D E F d e' f M g A l y := by
  have h1 := h.le
  have h2 := h.de
  have h3 := h.ef
  exact ⟨ht, (h.one.keep hc (by simp; omega)).mono hM, hd, (h.three.keep hc (by simp; omega)).mono hM, h.holds.keep hc (fun hp => by rw [bcs_length] at hp; have := h.lt hp; simp; omega), h.below.trans (hc.belowAt (by simp; omega) h.below.size), h1, h2, h3, h.lt⟩
theorem P3.turn3 {w x y : World} {D E F N M g : Nat} {d e f f' : Dc} {A : Option Addr} {l : List UInt8} (h : P3 w D E F d e f N g A l x) (ht : Tab y) (hd : Dec y F f' M) (hc : Ch [F] x y) (hM : N ≤ M) : P3 w D E F d e f' M g A l y := by
  have h1 := h.le
  have h2 := h.de
  have h3 := h.ef
  exact ⟨ht, (h.one.keep hc (by simp; omega)).mono hM, (h.two.keep hc (by simp; omega)).mono hM, hd, h.holds.keep hc (fun hp => by rw [bcs_length] at hp; have := h.lt hp; simp; omega), h.below.trans (hc.belowAt (by simp; omega) h.below.size), h1, h2, h3, h.lt⟩
theorem grown_ch {x y : World} {r : Option Nat} (hg : x.grownBy y r) : Ch r.toList x y := ⟨hg.os, hg.tape, hg.output, hg.size, fun k hk hf => hg.block k hk (fun e => hf (by rw [← e]; simp))⟩
/-- Something behind all three turned. -/
theorem P3.far {G : List Nat} {w x y : World} {D E F N g : Nat} {d e f : Dc} {A : Option Addr} {l : List UInt8} (h : P3 w D E F d e f N g A l x) (hc : Ch G x y) (hG : ∀ k ∈ G, F < k) : P3 w D E F d e f N g A l y := by
  have h1 := h.le
  have h2 := h.de
  have h3 := h.ef
  refine ⟨h.tab.keep hc (fun hk => by have := hG _ hk; omega), h.one.keep hc (fun hk => by have := hG _ hk; omega), h.two.keep hc (fun hk => by have := hG _ hk; omega), h.three.keep hc (fun hk => by have := hG _ hk; omega), h.holds.keep hc (fun hp hk => by rw [bcs_length] at hp; have := h.lt hp; have := hG _ hk; omega), h.below.trans (hc.belowAt (fun k hk => by have := hG _ hk; omega) h.below.size), h1, h2, h3, h.lt⟩
theorem own_behind {x : World} {B n F : Nat} {v : Value} {ts : List Tf} (h : Told x B v n ts) (hB : F < B) : ∀ k ∈ v.ownBlock.toList, F < k := by
  intro k hk
  have : v.ownBlock = some k := by simpa using hk
  have := (h.own.lt k this).1
  omega
/-- Two rows of frames: the second one's are put behind the first one's. -/
theorem Told.joined {x0 x y : World} {B B' n m c' : Nat} {A' : Option Addr} {v v' : Value} {ts us : List Tf} (h0 : Told x0 B v n ts) (h : Told x B v n ts) (h' : Told x B' v' m us) (hB : x0.heap.size ≤ B') (hBB : B ≤ B') (ho : y.ownsRow B 35 6 (.slice A' (n + m) c') (n + m) (tcs ts ++ tcs us)) (hg : x.grownBy y v.ownBlock) : Told y B (.slice A' (n + m) c') (n + m) (ts ++ us) :=
  h.grown (fun t ht => (h'.in_ t ht).mono hBB) h'.len (told_apart h0 h' hB) ho hg

/-- What is known while three frames are looked at. -/
structure V3 (P T : World → Prop) (q g1 : Nat) (B1 : Option Addr) (b1 h1 g2 : Nat) (B2 : Option Addr) (b2 h2 g3 : Nat) (B3 : Option Addr) (b3 h3 : Nat) (F : Fr) (x : World) : Prop where
  p : P x
  t : T x
  ps : ∀ x y, P x → Below x.heap.size x y → P y
  tstep : ∀ x y, T x → Below x.heap.size x y → T y
  f1 : Fa g1 q B1 b1 h1 F x
  f2 : Fa g2 q B2 b2 h2 F x
  f3 : Fa g3 q B3 b3 h3 F x
theorem V3.step {P T : World → Prop} {q g1 b1 h1 g2 b2 h2 g3 b3 h3 : Nat} {B1 B2 B3 : Option Addr} {F : Fr} {x y : World} (h : V3 P T q g1 B1 b1 h1 g2 B2 b2 h2 g3 B3 b3 h3 F x) (hb : Below x.heap.size x y) : V3 P T q g1 B1 b1 h1 g2 B2 b2 h2 g3 B3 b3 h3 F y :=
  ⟨h.ps _ _ h.p hb, h.tstep _ _ h.t hb, h.ps, h.tstep, h.f1.step hb, h.f2.step hb, h.f3.step hb⟩
theorem V3.cells {P T : World → Prop} {q g1 b1 h1 g2 b2 h2 g3 b3 h3 : Nat} {B1 B2 B3 : Option Addr} {F : Fr} {x : World} (h : V3 P T q g1 B1 b1 h1 g2 B2 b2 h2 g3 B3 b3 h3 F x) : (x.cell? ⟨g1, q * 6, none⟩ = some (.int .u8 (F.a : Int)) ∧ x.cell? ⟨g1, q * 6 + 1, none⟩ = some (.int .u8 (F.k : Int)) ∧ x.cell? ⟨g1, q * 6 + 2, none⟩ = some (.int .u8 (F.s : Int)) ∧ x.cell? ⟨g1, q * 6 + 3, none⟩ = some (.int .u8 (F.q : Int)) ∧ x.cell? ⟨g1, q * 6 + 4, none⟩ = some (.int .u8 (F.c : Int)) ∧ x.cell? ⟨g1, q * 6 + 5, none⟩ = some (.slice B1 F.b.length b1)) ∧ (x.cell? ⟨g2, q * 6, none⟩ = some (.int .u8 (F.a : Int)) ∧ x.cell? ⟨g2, q * 6 + 1, none⟩ = some (.int .u8 (F.k : Int)) ∧ x.cell? ⟨g2, q * 6 + 2, none⟩ = some (.int .u8 (F.s : Int)) ∧ x.cell? ⟨g2, q * 6 + 3, none⟩ = some (.int .u8 (F.q : Int)) ∧ x.cell? ⟨g2, q * 6 + 4, none⟩ = some (.int .u8 (F.c : Int)) ∧ x.cell? ⟨g2, q * 6 + 5, none⟩ = some (.slice B2 F.b.length b2)) ∧ (x.cell? ⟨g3, q * 6, none⟩ = some (.int .u8 (F.a : Int)) ∧ x.cell? ⟨g3, q * 6 + 1, none⟩ = some (.int .u8 (F.k : Int)) ∧ x.cell? ⟨g3, q * 6 + 2, none⟩ = some (.int .u8 (F.s : Int)) ∧ x.cell? ⟨g3, q * 6 + 3, none⟩ = some (.int .u8 (F.q : Int)) ∧ x.cell? ⟨g3, q * 6 + 4, none⟩ = some (.int .u8 (F.c : Int)) ∧ x.cell? ⟨g3, q * 6 + 5, none⟩ = some (.slice B3 F.b.length b3)) := ⟨h.f1.cells, h.f2.cells, h.f3.cells⟩

theorem feed_le : ∀ (l : List UInt8) (d : Dc), (d.feed l).2.length ≤ l.length
  | [], _ => Nat.le_refl _
  | b :: l, d => by
    have h1 := feed_le l (d.one b).1
    have h2 : (d.one b).2.length ≤ 1 := by
      unfold Dc.one
      repeat' split
      all_goals simp
    rw [feed_cons, List.length_append, List.length_cons]
    omega

set_option maxHeartbeats 8000000 in
set_option maxRecDepth 100000 in
theorem resyncportions_walk (g : Nat) (A : Option Addr) (l0 : List UInt8) (len cap : Nat) (at0 : Int) (w : World) (ht : Tab w) (h : Holds w g A (bcs l0)) (hlen : l0.length = len) (hcap : len ≤ cap) (hmx : cap ≤ 9223372036854775807) :
    Calls Tryd.prog 4 #[.slice A len cap, .int .i64 at0] w fun e w' => e = .returned (.bool true) ∧ Below w.heap.size w w' := by
  obtain ⟨i0, hi, hz0', hz1, hz2⟩ := info_parts info_frame
  obtain ⟨n, hm3, hml, hmin⟩ := min_of len 2000 2000 rfl
  obtain ⟨a, ha, hat1, hat2⟩ := place_of at0 n
  have HTB := Lib.hid ht
  have HH := Lib.hid h
  have HL := Lib.hid hlen
  clear h hlen ht
  go_enter Tryd.func4, Tryd.ntmps4
  go_wp2_with fail
  refine (shown_any w HTB.out).mono ?_
  rintro e x1 ⟨rfl, hb1⟩
  have HT1 := Lib.hid (HTB.out.keep (Ch.of_below hb1) (by simp))
  have HW1 := Lib.hid hb1
  have HLL : Hid ((l0.take n).length = n) := by show _ = _; rw [List.length_take, HL.out]; omega
  have HH1 : Hid (Holds x1 g A (bcs (l0.take n))) := by
    show Holds _ _ _ _
    rw [bcs_take]
    exact (HH.out.take n).keep (Ch.of_below hb1) (by simp)
  have HGL : Hid (0 < (l0.take n).length → g < w.heap.size) := fun hp => (HH.out (by rw [bcs_length]; rw [List.length_take] at hp; omega)).1
  generalize l0.take n = l at *
  clear HH HL HTB hb1
  have hnc : n ≤ cap := by omega
  have hac : a ≤ cap := by omega
  obtain ⟨zs, hzs, hz, hzn, hz0⟩ := zero_ex
  have HZ := Lib.hid hzs
  clear hzs
  go_upto_region 7 with fail
  have HD1 := Lib.hid (Sd.start HT1.out HW1.out HZ.out)
  have HD2 := Lib.hid (Sd.start HD1.out.tab HD1.out.below HZ.out)
  have HD3 := Lib.hid (Sd.start HD2.out.tab HD2.out.below HZ.out)
  have hs1 : (x1.alloc (.cells zs 30)).heap.size = x1.heap.size + 1 := by simp
  have hs2 : ((x1.alloc (.cells zs 30)).alloc (.cells zs 30)).heap.size = x1.heap.size + 1 + 1 := by simp
  rw [hs1] at HD2
  rw [hs2] at HD3
  have H2 : Hid (P3 w x1.heap.size (x1.heap.size + 1) (x1.heap.size + 1 + 1) Dc.zero Dc.zero Dc.zero 0 g A l (((x1.alloc (.cells zs 30)).alloc (.cells zs 30)).alloc (.cells zs 30))) :=
    ⟨HD3.out.tab, ((HD1.out.dec.keep (Ch.of_below (new_below _ _)) (by simp)).keep (Ch.of_below (new_below _ _)) (by simp)), (HD2.out.dec.keep (Ch.of_below (new_below _ _)) (by simp)), HD3.out.dec,
      ((HH1.out.keep (Ch.of_below (new_below _ _)) (by simp)).keep (Ch.of_below (new_below _ _)) (by simp)).keep (Ch.of_below (new_below _ _)) (by simp), HD3.out.below, HW1.out.size, by omega, by omega, HGL.out⟩
  have hs3 : (((x1.alloc (.cells zs 30)).alloc (.cells zs 30)).alloc (.cells zs 30)).heap.size = x1.heap.size + 1 + 1 + 1 := by simp
  have HF2 : Hid (x1.heap.size + 1 + 1 < (((x1.alloc (.cells zs 30)).alloc (.cells zs 30)).alloc (.cells zs 30)).heap.size) := by rw [hs3]; exact Nat.lt_succ_self _
  clear hz hzn hz0 HZ HT1 HW1 HD1 HD2 HD3 hs1 hs2 hs3 HH1
  generalize (((x1.alloc (.cells zs 30)).alloc (.cells zs 30)).alloc (.cells zs 30)) = x2 at *
  generalize x1.heap.size = D at *
  go_wp2_with fail
  refine (feed_on (l := l) H2.out.tab H2.out.one H2.out.holds HLL.out (fun hp => by have := HGL.out (by rw [HLL.out]; exact hp); have := H2.out.le; omega) (by omega)).mono ?_
  rintro e x3 ⟨A3, m1, c3, ts1, rfl, ho3, hf3, -, hd3, ht3, hc3⟩
  rw [HLL.out, Nat.zero_add] at hd3
  have H3 := Lib.hid (H2.out.turn1 ht3 hd3 hc3 (Nat.zero_le _))
  have HO1 := Lib.hid (ho3.mono (Nat.le_of_lt HF2.out |> fun h => (show D + 1 + 1 + 1 ≤ x2.heap.size from HF2.out)))
  have HF1 := Lib.hid hf3
  clear ho3 hf3 hd3 ht3 hc3 H2 HF2
  go_upto_region 8 with fail
  replace H3 := Lib.hid (H3.out.step (drew_below x3))
  replace HO1 := Lib.hid (HO1.out.step (drew_below x3))
  refine region_plan [(true, 0), (true, 1), (true, 2), (true, 3), (true, 5), (true, 6), (true, 7), (true, 8), (false, 4), (false, 9), (false, 10), (true, 11)]
    (fun _ => True) (by kernel_rfl) (by kernel_rfl) (by kernel_rfl) rfl trivial ?_
  iterate 8 (refine Plan.take (v := ?_) rfl (by rfl) ?_ ?_; rotate_left 1; (focus (intro x hx; go_simp <;> (first | with_reducible rfl | rw [if_pos (by omega)]))); simp only [Act.put, List.setIfInBounds_toArray, List.set_cons_zero, List.set_cons_succ])
  generalize x3.drew = x4 at *
  generalize hAd : (if cap = a then A else Option.map (fun x => x.add a) A) = Ad
  have HAD := Lib.hid hAd
  clear hAd
  refine Plan.loud rfl (fun K hK => ?_)
  go_simp
  refine (feed_on (l := l.take a) H3.out.tab H3.out.two (by rw [bcs_take]; exact H3.out.holds.take a) (by rw [List.length_take, HLL.out]; omega) (fun hp => by have := HGL.out (by rw [HLL.out]; omega); have := H3.out.le; omega) (by omega)).mono ?_
  rintro e x5 ⟨A5, ma, c5, tsa, rfl, ho5, hf5, hm5, hd5, ht5, hc5⟩
  have H4 := Lib.hid (H3.out.turn2 ht5 hd5 hc5 (by omega))
  have HC45 := Lib.hid hc5
  have HFx : Hid (D + 1 + 1 < x4.heap.size) := H3.out.three.lt
  have HOa := Lib.hid ho5
  have HFa := Lib.hid hf5
  have hma : ma ≤ n := Nat.le_trans hm5 (by rw [List.length_take, HLL.out]; omega)
  have HNa : Hid ((l.take a).length = a) := by show _ = _; rw [List.length_take, HLL.out]; omega
  rw [HNa.out] at H4
  have HS45 := Lib.hid hc5.size
  clear ho5 hf5 hm5 hd5 ht5 hc5 H3
  refine hK.out (fun _ => True) _ _ (fun _ _ => trivial) trivial ?_
  clear hK K
  refine Plan.loud rfl (fun K hK => ?_)
  go_simp
  refine (feed_on (l := l.drop a) H4.out.tab H4.out.two (by rw [bcs_drop, ← HAD.out]; exact H4.out.holds.drop a cap (by rw [bcs_length, HLL.out]; exact ha) (by rw [bcs_length, HLL.out]; exact hnc)) (by rw [List.length_drop, HLL.out]) (fun hp => by have := HGL.out (by rw [HLL.out]; omega); have := H4.out.le; omega) (by omega)).mono ?_
  rintro e x6 ⟨A6, mb, c6, tsb, rfl, ho6, hf6, hm6, hd6, ht6, hc6⟩
  have H5 := Lib.hid (H4.out.turn2 ht6 hd6 hc6 (by omega))
  have HC46 := Lib.hid (HC45.out.join hc6 (by simp))
  have HOa6 := Lib.hid (HOa.out.keep hc6 (fun g hg => by have := HFx.out; simp; omega))
  have HOb := Lib.hid ho6
  have HFb := Lib.hid hf6
  have hmb : mb ≤ n := Nat.le_trans hm6 (by rw [List.length_drop, HLL.out]; omega)
  have HNb : Hid ((l.drop a).length = n - a) := by show _ = _; rw [List.length_drop, HLL.out]
  rw [HNb.out] at H5
  obtain ⟨gb, hgb⟩ := HOb.out.holds
  have HGb := Lib.hid hgb
  refine hK.out (fun _ => True) _ _ (fun _ _ => trivial) trivial ?_
  clear hK K
  have HS56 := Lib.hid hc6.size
  clear ho6 hf6 hm6 hd6 ht6 hc6 H4 hgb
  refine Plan.loud rfl (fun K hK => ?_)
  rw [if_pos (by rfl)]
  refine wp_append_wide (.tmp 39) (.tmp 44) 31 rfl x4.heap.size 35 i0 (.agg noFrame) 6 32 Tryd.underlying31 hi hz0' hz1 hz2 rfl (by decide) (.slice A5 ma c5) ma (tcs tsa) rfl HOa6.out.own gb A6 mb c6 (tcs tsb) rfl HOb.out.news HGb.out (tcs_oneCell _) (by unfold maxLen; omega) (by omega) (Nat.le_trans HS45.out HS56.out) ?_
  intro A7 c7 x7 hown7 hgr7
  have HO2 := Lib.hid ((HOa.out.joined HOa6.out HOb.out (Nat.le_refl _) HS45.out hown7 hgr7).mono (show D + 1 + 1 + 1 ≤ x4.heap.size from HFx.out))
  have H7 := Lib.hid (H5.out.far (grown_ch hgr7) (own_behind HOa6.out HFx.out))
  have HF2 : Hid ((tsa ++ tsb).map (·.f) = (Dc.zero.feed l).2 ∧ (Dc.zero.feed l).1 = ((Dc.zero.feed (l.take a)).1.feed (l.drop a)).1) := by
    have h1 := feed_append (l.take a) (l.drop a) Dc.zero
    rw [List.take_append_drop] at h1
    rw [List.map_append, HFa.out, HFb.out, h1]
    exact ⟨rfl, rfl⟩
  rw [← HF2.out.2] at H7
  replace HO1 := Lib.hid (HO1.out.keep (HOa6.out.ch HC46.out (Nat.le_refl _) hgr7) (fun g hg => by simp; omega))
  refine hK.out (fun _ => True) _ _ (fun _ _ => trivial) trivial ?_
  clear hK K hown7 hgr7 HOa HOa6 HOb HGb H5 HFa HFb HC45 HC46 HAD HNa HNb HS45 HS56 HFx
  iterate 1 (refine Plan.take (v := ?_) rfl (by rfl) ?_ ?_; rotate_left 1; (focus (intro x hx; go_simp <;> (first | with_reducible rfl | rw [if_pos (by omega)]))); simp only [Act.put, List.setIfInBounds_toArray, List.set_cons_zero, List.set_cons_succ])
  refine Plan.done ?_
  have hm1 : Hid (m1 = (Dc.zero.feed l).2.length) := by show _ = _; rw [← HF1.out, List.length_map, HO1.out.len]
  have hm2 : Hid (ma + mb = (Dc.zero.feed l).2.length) := by show _ = _; rw [← HF2.out.1, List.length_map, HO2.out.len]
  have hM : (Dc.zero.feed l).2.length ≤ n := by have := feed_le l Dc.zero; rw [HLL.out] at this; exact this
  have HF2' := Lib.hid HF2.out.1
  generalize tsa ++ tsb = ts2 at *
  rw [show n + a + (n - a) = n + n by omega] at H7
  have hm12 : ma + mb = m1 := by rw [hm2.out, hm1.out]
  rw [hm12] at HO2 ⊢
  rw [← hm1.out] at hM
  clear hm12 hm2 HF2 hma hmb
  go_wp2
  go_loopw [11, 12] (fun v i wr => ∃ (k m c' : Nat) (A' : Option Addr) (ts : List Tf), k ≤ n ∧ i = .int .i64 k ∧ v = .slice A' m c' ∧ Hid (P3 w D (D + 1) (D + 1 + 1) (Dc.zero.feed l).1 (Dc.zero.feed l).1 (Dc.zero.feed (l.take k)).1 (n + n + k) g A l wr) ∧ Hid (Told wr x7.heap.size (.slice A' m c') m ts) ∧ Hid (ts.map (·.f) = (Dc.zero.feed (l.take k)).2) ∧ Hid (Ch [D + 1 + 1] x7 wr) ∧ m ≤ k) (fun _ i _ => n - (intOf i).toNat)
  case atStart => exact ⟨0, 0, 0, none, [], Nat.zero_le _, rfl, rfl, H7, Told.nil _ _, rfl, Ch.refl _ _, Nat.le_refl _⟩
  case round =>
    obtain ⟨k, m, c', A', ts, hk, rfl, rfl, HP, HO3, HF3, HC, hmk⟩ := hrel
    by_cases hlt : k < n
    · have hkl : k < l.length := by rw [HLL.out]; exact hlt
      obtain ⟨hgl, o, rfl, hcells⟩ := HP.out.holds (by rw [bcs_length]; omega)
      have hc := hcells k _ (bcs_get l k hkl)
      clear hcells
      have hlt' : (k : Int) < (n : Int) := by omega
      obtain ⟨b, hb⟩ : ∃ b, l[k]'hkl = b := ⟨_, rfl⟩
      have HB := Lib.hid hb
      rw [hb] at hc
      clear hb
      have HL9 := Lib.hid (lit_one wr b)
      have HW9 := Lib.hid (new_below wr (.cells #[.int .u8 (b.toNat : Int)] 5))
      have HP9 := Lib.hid (HP.out.step HW9.out)
      have HO9 := Lib.hid (HO3.out.step HW9.out)
      have HC9 := Lib.hid (HC.out.join (Ch.of_below HW9.out) (by simp))
      have HFl := Lib.hid HP.out.three.lt
      have HS9 := Lib.hid HW9.out.size
      generalize hx9 : wr.alloc (.cells #[.int .u8 (b.toNat : Int)] 5) = x9 at *
      go_wp2_with fail
      refine (feed_on (l := [b]) HP9.out.tab HP9.out.three HL9.out rfl (fun _ => by have := HFl.out; omega) (by simp; omega)).mono ?_
      rintro e x10 ⟨A10, m10, c10, ts10, rfl, ho10, hf10, hm10, hd10, ht10, hc10⟩
      have hnx : Dc.zero.feed (l.take (k + 1)) = (((Dc.zero.feed (l.take k)).1.feed [b]).1, (Dc.zero.feed (l.take k)).2 ++ ((Dc.zero.feed (l.take k)).1.feed [b]).2) := by
        rw [feed_take hkl, HB.out, feed_one]
      have HP10 := Lib.hid (HP9.out.turn3 ht10 hd10 hc10 (Nat.le_add_right _ _))
      have HFB : Hid (D + 1 + 1 < x7.heap.size) := H7.out.three.lt
      have HO10 := Lib.hid (HO9.out.keep hc10 (fun g hg => by have := HFB.out; simp; omega))
      have HC10 := Lib.hid (HC9.out.join hc10 (by simp))
      have HON := Lib.hid ho10
      obtain ⟨gn, hgn⟩ := HON.out.holds
      have HGN := Lib.hid hgn
      have HS10 : Hid (x7.heap.size ≤ x10.heap.size) := Nat.le_trans HC9.out.size hc10.size
      have hm10' : m10 ≤ 1 := hm10
      have HNX := Lib.hid hnx
      have HFN := Lib.hid hf10
      have HS7 := Lib.hid (Nat.le_trans HC9.out.size (Nat.le_refl x9.heap.size))
      clear ho10 hf10 hm10 hd10 ht10 hc10 HP9 HC9 hgn hnx hx9
      go_wp2_with (at_builtin; refine wpList_append_wide rfl (.tmp 52) (.tmp 59) 31 rfl x7.heap.size 35 i0 (.agg noFrame) 6 32 Tryd.underlying31 hi hz0' hz1 hz2 rfl (by decide) (.slice A' m c') m (tcs ts) rfl HO10.out.own gn A10 m10 c10 (tcs ts10) rfl HON.out.news HGN.out (tcs_oneCell _) (by unfold maxLen; omega) (by omega) HS10.out ?_; intro A11 c11 x11 hown11 hgr11; have HO11 := Lib.hid (HO9.out.joined HO10.out HON.out (Nat.le_refl _) HS7.out hown11 hgr11); have HP11 := Lib.hid (HP10.out.far (grown_ch hgr11) (own_behind HO10.out HFB.out)); have HC11 := Lib.hid (HO10.out.ch HC10.out (Nat.le_refl _) hgr11); clear hown11 hgr11)
      refine (held_on HP11.out.three).mono ?_
      rintro e x12 ⟨rfl, rfl⟩
      have hH : ((Dc.zero.feed (l.take k)).1.feed [b]).1.held.length ≤ 62 := HP11.out.three.ok.most
      have hN1 : Hid ((Dc.zero.feed (l.take (k + 1))).1 = ((Dc.zero.feed (l.take k)).1.feed [b]).1) := by show _ = _; rw [HNX.out]
      generalize ((Dc.zero.feed (l.take k)).1.feed [b]).1.held.length = hl at *
      have hH' : ¬ (62 : Int) < (hl : Int) := by omega
      go_wp2
      go_roundw
      case rel =>
        refine ⟨k + 1, m + m10, c11, A11, ts ++ ts10, by omega, by go_num, rfl, ?_, HO11, ?_, HC11, by omega⟩
        · have := HP11.out
          rw [← hN1.out] at this
          exact this
        · show _ = _
          rw [List.map_append, HF3.out, HFN.out, HNX.out]
      case measure => simp [intOf]; omega
    · have hkn : k = n := by omega
      subst hkn
      rw [show l.take k = l from List.take_of_length_le (by rw [HLL.out]; exact Nat.le_refl _)] at HP HF3
      obtain rfl : m = m1 := by rw [hm1.out, ← HF3.out, List.length_map, HO3.out.len]
      have HFB : Hid (D + 1 + 1 < x7.heap.size) := H7.out.three.lt
      replace HO1 := Lib.hid (HO1.out.keep HC.out (fun g hg => by simp; omega))
      replace HO2 := Lib.hid (HO2.out.keep HC.out (fun g hg => by simp; omega))
      have HRT := Lib.hid (feed_right l Dc.zero)
      generalize (Dc.zero.feed l).1 = d at *
      generalize (Dc.zero.feed l).2 = fs at *
      have hfl : fs.length = m := hm1.out.symm
      have HFL := Lib.hid hfl
      clear HC H7 hm1 hfl
      go_wp2
      go_loopw [13] (fun i wr => ∃ q : Nat, q ≤ m ∧ i = .int .i64 q ∧ Hid (P3 w D (D + 1) (D + 1 + 1) d d d (k + k + k) g A l wr) ∧ Hid (Told wr (D + 1 + 1 + 1) (.slice A3 m c3) m ts1) ∧ Hid (Told wr (D + 1 + 1 + 1) (.slice A7 m c7) m ts2) ∧ Hid (Told wr x7.heap.size (.slice A' m c') m ts)) (fun i _ => m - (intOf i).toNat)
      case atStart => exact ⟨0, Nat.zero_le _, rfl, HP, HO1, HO2, HO3⟩
      case round =>
        clear HP HO1 HO2 HO3
        obtain ⟨q, hq, rfl, HP, HO1, HO2, HO3⟩ := hrel
        by_cases hlt : q < m
        · have hq1 : q < ts1.length := by rw [HO1.out.len]; exact hlt
          have hq2 : q < ts2.length := by rw [HO2.out.len]; exact hlt
          have hq3 : q < ts.length := by rw [HO3.out.len]; exact hlt
          have hqf : q < fs.length := by rw [HFL.out]; exact hlt
          have hlt' : (q : Int) < (m : Int) := by omega
          go_upto_region 21 with fail
          replace HP := Lib.hid (HP.out.step (drew_below wr))
          replace HO1 := Lib.hid (HO1.out.step (drew_below wr))
          replace HO2 := Lib.hid (HO2.out.step (drew_below wr))
          replace HO3 := Lib.hid (HO3.out.step (drew_below wr))
          obtain ⟨F, hF⟩ : ∃ F, fs[q]'hqf = F := ⟨_, rfl⟩
          have he1 : (ts1[q]'hq1).f = F := by rw [← hF]; simp only [← HF1.out, List.getElem_map]
          have he2 : (ts2[q]'hq2).f = F := by rw [← hF]; simp only [← HF2'.out, List.getElem_map]
          have he3 : (ts[q]'hq3).f = F := by rw [← hF]; simp only [← HF3.out, List.getElem_map]
          have HRI : Hid (F.right = true) := by show _ = _; rw [← hF]; exact HRT.out _ (List.getElem_mem hqf)
          obtain ⟨g1, B1, b1, h1, rfl, hf1⟩ := HO1.out.fa q hq1 F he1
          obtain ⟨g2, B2, b2, h2, rfl, hf2⟩ := HO2.out.fa q hq2 F he2
          obtain ⟨g3, B3, b3, h3, rfl, hf3⟩ := HO3.out.fa q hq3 F he3
          have HV : Hid (V3 (P3 w D (D + 1) (D + 1 + 1) d d d (k + k + k) g A l) (fun x => Told x (D + 1 + 1 + 1) (.slice (some ⟨g1, 0, none⟩) m c3) m ts1 ∧ Told x (D + 1 + 1 + 1) (.slice (some ⟨g2, 0, none⟩) m c7) m ts2 ∧ Told x x7.heap.size (.slice (some ⟨g3, 0, none⟩) m c') m ts) q g1 B1 b1 h1 g2 B2 b2 h2 g3 B3 b3 h3 F wr.drew) :=
            ⟨HP.out, ⟨HO1.out, HO2.out, HO3.out⟩, fun _ _ h hb => h.step hb, fun _ _ h hb => ⟨h.1.step hb, h.2.1.step hb, h.2.2.step hb⟩, hf1, hf2, hf3⟩
          clear HP HO1 HO2 HO3 hf1 hf2 hf3 he1 he2 he3 hF hq1 hq2 hq3 hqf
          refine region_plan [(true, 0), (true, 1), (true, 2), (true, 3), (true, 5), (true, 6), (true, 7), (true, 8), (false, 4), (false, 9), (true, 10), (true, 11), (true, 12), (true, 13), (true, 14), (true, 15), (true, 17), (true, 18), (true, 19), (true, 20), (false, 16), (false, 21), (true, 22), (true, 23), (true, 24), (true, 25), (true, 26), (true, 27), (true, 28), (false, 29), (true, 30), (true, 31)]
            (fun x => (x.cell? ⟨g1, q * 6, none⟩ = some (.int .u8 (F.a : Int)) ∧ x.cell? ⟨g1, q * 6 + 1, none⟩ = some (.int .u8 (F.k : Int)) ∧ x.cell? ⟨g1, q * 6 + 2, none⟩ = some (.int .u8 (F.s : Int)) ∧ x.cell? ⟨g1, q * 6 + 3, none⟩ = some (.int .u8 (F.q : Int)) ∧ x.cell? ⟨g1, q * 6 + 4, none⟩ = some (.int .u8 (F.c : Int)) ∧ x.cell? ⟨g1, q * 6 + 5, none⟩ = some (.slice B1 F.b.length b1)) ∧ (x.cell? ⟨g2, q * 6, none⟩ = some (.int .u8 (F.a : Int)) ∧ x.cell? ⟨g2, q * 6 + 1, none⟩ = some (.int .u8 (F.k : Int)) ∧ x.cell? ⟨g2, q * 6 + 2, none⟩ = some (.int .u8 (F.s : Int)) ∧ x.cell? ⟨g2, q * 6 + 3, none⟩ = some (.int .u8 (F.q : Int)) ∧ x.cell? ⟨g2, q * 6 + 4, none⟩ = some (.int .u8 (F.c : Int)) ∧ x.cell? ⟨g2, q * 6 + 5, none⟩ = some (.slice B2 F.b.length b2)) ∧ (x.cell? ⟨g3, q * 6, none⟩ = some (.int .u8 (F.a : Int)) ∧ x.cell? ⟨g3, q * 6 + 1, none⟩ = some (.int .u8 (F.k : Int)) ∧ x.cell? ⟨g3, q * 6 + 2, none⟩ = some (.int .u8 (F.s : Int)) ∧ x.cell? ⟨g3, q * 6 + 3, none⟩ = some (.int .u8 (F.q : Int)) ∧ x.cell? ⟨g3, q * 6 + 4, none⟩ = some (.int .u8 (F.c : Int)) ∧ x.cell? ⟨g3, q * 6 + 5, none⟩ = some (.slice B3 F.b.length b3)))
            (by kernel_rfl) (by kernel_rfl) (by kernel_rfl) rfl HV.out.cells ?_
          iterate 8 (refine Plan.take (v := ?_) rfl (by rfl) ?_ ?_; rotate_left 1; (focus (intro x hx; go_simp <;> (first | with_reducible rfl | rw [if_pos (by omega)]))); simp only [Act.put, List.setIfInBounds_toArray, List.set_cons_zero, List.set_cons_succ])
          generalize wr.drew = y0 at *
          refine Plan.loud rfl (fun K hK => ?_)
          go_simp
          refine (of_on HV.out.f1.hold rfl).mono ?_
          rintro e y1 ⟨rfl, hb⟩
          replace HV := Lib.hid (HV.out.step hb)
          clear hb
          refine hK.out _ _ _ (fun x hx => hx) HV.out.cells ?_
          clear hK K
          refine Plan.loud rfl (fun K hK => ?_)
          go_simp
          refine (of_on HV.out.f2.hold rfl).mono ?_
          rintro e y2 ⟨rfl, hb⟩
          replace HV := Lib.hid (HV.out.step hb)
          clear hb
          refine hK.out _ _ _ (fun x hx => hx) HV.out.cells ?_
          clear hK K
          iterate 10 (refine Plan.take (v := ?_) rfl (by rfl) ?_ ?_; rotate_left 1; (focus (intro x hx; go_simp <;> (first | with_reducible rfl | rw [if_pos (by omega)]))); simp only [Act.put, List.setIfInBounds_toArray, List.set_cons_zero, List.set_cons_succ])
          refine Plan.loud rfl (fun K hK => ?_)
          go_simp
          refine (of_on HV.out.f1.hold rfl).mono ?_
          rintro e y3 ⟨rfl, hb⟩
          replace HV := Lib.hid (HV.out.step hb)
          clear hb
          refine hK.out _ _ _ (fun x hx => hx) HV.out.cells ?_
          clear hK K
          refine Plan.loud rfl (fun K hK => ?_)
          go_simp
          refine (of_on HV.out.f3.hold rfl).mono ?_
          rintro e y4 ⟨rfl, hb⟩
          replace HV := Lib.hid (HV.out.step hb)
          clear hb
          refine hK.out _ _ _ (fun x hx => hx) HV.out.cells ?_
          clear hK K
          iterate 7 (refine Plan.take (v := ?_) rfl (by rfl) ?_ ?_; rotate_left 1; (focus (intro x hx; go_simp <;> (first | with_reducible rfl | rw [if_pos (by omega)]))); simp only [Act.put, List.setIfInBounds_toArray, List.set_cons_zero, List.set_cons_succ])
          refine Plan.loud rfl (fun K hK => ?_)
          go_simp
          refine (right_yes HRI.out).mono ?_
          rintro e y5 ⟨rfl, hb⟩
          replace HV := Lib.hid (HV.out.step hb)
          clear hb
          refine hK.out _ _ _ (fun x hx => hx) HV.out.cells ?_
          clear hK K
          iterate 2 (refine Plan.take (v := ?_) rfl (by rfl) ?_ ?_; rotate_left 1; (focus (intro x hx; go_simp <;> (first | with_reducible rfl | rw [if_pos (by omega)]))); simp only [Act.put, List.setIfInBounds_toArray, List.set_cons_zero, List.set_cons_succ])
          refine Plan.done ?_
          go_wp2
          go_roundw
          case rel => exact ⟨q + 1, by omega, by go_num, HV.out.p, HV.out.t.1, HV.out.t.2.1, HV.out.t.2.2⟩
          case measure => simp [intOf]; omega
        · have heq := eq_twelve (d.errs 0 : Int) (d.errs 1 : Int) (d.errs 2 : Int) (d.errs 3 : Int) (d.errs 4 : Int) (d.errs 5 : Int) (d.errs 6 : Int) (d.errs 7 : Int) (d.errs 8 : Int) (d.errs 9 : Int) (d.errs 10 : Int) (d.errs 11 : Int)
          have hgd : Tryd.prog.eqGuardType Tryd.prog.depth 25 = false := by kernel_rfl
          go_wp2_with fail
          refine (errors_on HP.out.one).mono ?_
          rintro e y1 ⟨rfl, hb⟩
          rw [ecs_lit]
          replace HP := Lib.hid (HP.out.step hb)
          clear hb
          go_wp2_with fail
          refine (errors_on HP.out.two).mono ?_
          rintro e y2 ⟨rfl, hb⟩
          rw [ecs_lit]
          replace HP := Lib.hid (HP.out.step hb)
          clear hb
          go_wp2_with fail
          refine (errors_on HP.out.one).mono ?_
          rintro e y3 ⟨rfl, hb⟩
          rw [ecs_lit]
          replace HP := Lib.hid (HP.out.step hb)
          clear hb
          go_wp2_with fail
          refine (errors_on HP.out.three).mono ?_
          rintro e y4 ⟨rfl, hb⟩
          rw [ecs_lit]
          replace HP := Lib.hid (HP.out.step hb)
          clear hb
          go_wp2_with fail
          refine (held_on HP.out.one).mono ?_
          rintro e y5 ⟨rfl, rfl⟩
          go_wp2_with fail
          refine (held_on HP.out.two).mono ?_
          rintro e y6 ⟨rfl, rfl⟩
          go_wp2_with fail
          refine (held_on HP.out.one).mono ?_
          rintro e y7 ⟨rfl, rfl⟩
          go_wp2_with fail
          refine (held_on HP.out.three).mono ?_
          rintro e y8 ⟨rfl, rfl⟩
          go_wp2
          go_ret
          exact ⟨rfl, HP.out.below⟩

end Go.Proofs.YtalolefggihloaaDoor
