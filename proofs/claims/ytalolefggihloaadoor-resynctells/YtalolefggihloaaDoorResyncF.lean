/-
  (*resync.Decoder).Feed, as it landed: what it answers; frames appended to frames.
-/
import Derived.Test.YtalolefggihloaaDoorResyncE
namespace Go.Proofs.YtalolefggihloaaDoor
set_option linter.unusedVariables false
set_option linter.unusedSimpArgs false
open Go.RowKit

theorem info_frame : (Tryd.prog.info? 35).map (fun i => (i.zero, i.size, i.bytes)) = some (some (.agg noFrame), 6, 32) := by kernel_rfl

theorem run_append_nothing6 {P : Program} {w : World} (base : Nat) (t ty e : TypeId) (i : TypeInfo) (size : Nat) (ht : P.underlying t = some (.slice e)) (hi : P.info? e = some i)
    (v : Value) (n : Nat) (xs : List Value) (hown : w.ownsRow base e size v n xs) (c : Nat) : (Builtin.append_ #[t, t] ty #[v, .slice none 0 c]).run P w = .ok v w := run_append_nothing base t ty e i size ht hi v n xs hown c

/-- An append onto a row of one's own of elements of some cells each, of what a slice holds, nil or not. -/
theorem wp_append_wide {P : Program} {w : World} {o : Oper} {a : Act} {K : Act → World → Prop} {Q : Exit → Act → World → Prop} (s x : Operand) (t : TypeId)
    (ho : o.op = .call { callee := .builtin .append, args := #[s, x], argTypes := #[t, t] })
    (base : Nat) (e : TypeId) (i : TypeInfo) (z : Value) (size bytes : Nat) (ht : P.underlying t = some (.slice e)) (hi : P.info? e = some i) (hz : i.zero = some z) (hsize : i.size = size) (hby : i.bytes = bytes) (hzs : z.cells.size = size) (hsz : 0 < size)
    (v : Value) (n : Nat) (xs : List Value) (hs : a.eval s = v) (hown : w.ownsRow base e size v n xs)
    (sb : Nat) (A : Option Addr) (m c : Nat) (news : List Value) (hx : a.eval x = .slice A m c) (hm : news.length = m * size) (hh : Holds w sb A news) (h1 : ∀ u ∈ news, u.oneCell' = true)
    (h63 : n + m ≤ maxLen) (hbytes : (n + m) * bytes ≤ 140737488355328) (hbase : base ≤ w.heap.size)
    (h : ∀ A' c' w', w'.ownsRow base e size (.slice A' (n + m) c') (n + m) (xs ++ news) → w.grownBy w' v.ownBlock → K (a.put o.dst (.slice A' (n + m) c')) w') : o.wp P a w K Q := by
  have hrun : ∃ v' w', (Builtin.append_ #[t, t] o.type #[v, .slice A m c]).run P w = .ok v' w' ∧ w'.ownsRow base e size v' (n + m) (xs ++ news) ∧ w.grownBy w' v.ownBlock := by
    cases A with
    | none =>
      have h0 : news = [] := by
        cases news with
        | nil => rfl
        | cons u us =>
          obtain ⟨_, o', ho', _⟩ := hh (by simp)
          cases ho'
      subst h0
      have hm0 : m = 0 := by
        rcases Nat.mul_eq_zero.1 (show m * size = 0 by rw [← hm]; rfl) with h | h
        · exact h
        · omega
      subst hm0
      exact ⟨v, w, run_append_nothing base t o.type e i size ht hi v n xs hown c, by simpa using hown, World.grownBy.refl w _⟩
    | some ad =>
      have hc : ∀ j u, news[j]? = some u → w.cell? (ad.add j) = some u := by
        intro j u hu
        have hp : 0 < news.length := by
          cases news with
          | nil => simp at hu
          | cons _ _ => simp
        obtain ⟨_, o', ho', hcell⟩ := hh hp
        injection ho' with ho'
        subst ho'
        rw [addr_add]
        exact hcell j u hu
      obtain ⟨v', w', r1, r2, r3, _⟩ := run_append_own (P := P) w base t o.type e i z size bytes ht hi hz hsize hby hzs hsz v n xs hown ad m c news hm hc h1 h63 hbytes hbase
      exact ⟨v', w', r1, r2, r3⟩
  obtain ⟨v', w', hr, h2, h3⟩ := hrun
  obtain ⟨A', c', rfl⟩ := ownB_form h2
  unfold Oper.wp
  simp [execOp, ho, resolve, invoke, builtin, hs, hx, hr, Result.andThen]
  exact h A' c' w' h2 h3
theorem wpList_append_wide {P : Program} {w : World} {ops : Array Oper} {rest : List Oper} {o : Oper} {a : Act} {Q : Exit → Act → World → Prop} (hgd : o.guard = none) (s x : Operand) (t : TypeId)
    (ho : o.op = .call { callee := .builtin .append, args := #[s, x], argTypes := #[t, t] })
    (base : Nat) (e : TypeId) (i : TypeInfo) (z : Value) (size bytes : Nat) (ht : P.underlying t = some (.slice e)) (hi : P.info? e = some i) (hz : i.zero = some z) (hsize : i.size = size) (hby : i.bytes = bytes) (hzs : z.cells.size = size) (hsz : 0 < size)
    (v : Value) (n : Nat) (xs : List Value) (hs : a.eval s = v) (hown : w.ownsRow base e size v n xs)
    (sb : Nat) (A : Option Addr) (m c : Nat) (news : List Value) (hx : a.eval x = .slice A m c) (hm : news.length = m * size) (hh : Holds w sb A news) (h1 : ∀ u ∈ news, u.oneCell' = true)
    (h63 : n + m ≤ maxLen) (hbytes : (n + m) * bytes ≤ 140737488355328) (hbase : base ≤ w.heap.size)
    (h : ∀ A' c' w', w'.ownsRow base e size (.slice A' (n + m) c') (n + m) (xs ++ news) → w.grownBy w' v.ownBlock → wpList P ops Q rest (a.put o.dst (.slice A' (n + m) c')) w') : wpList P ops Q (o :: rest) a w :=
  wpList_plain hgd fun _ hK => wp_append_wide s x t ho base e i z size bytes ht hi hz hsize hby hzs hsz v n xs hs hown sb A m c news hx hm hh h1 h63 hbytes hbase fun A' c' w' h1 h2 => hK _ _ (h A' c' w' h1 h2)

/-- Its own block is none that bytes lie in. -/
theorem own_row {w : World} {B n g : Nat} {v : Value} {xs : List Value} {l : List UInt8} (h : w.ownsRow B 35 6 v n xs) (hr : Row w g l) : some g ≠ v.ownBlock := by
  intro he
  rcases h.2 with ⟨rfl, _⟩ | ⟨g', cap, cur, rfl, _, hh, _⟩
  · simp [Value.ownBlock] at he
  · simp [Value.ownBlock] at he
    subst he
    have h2 : w.heap[g]? = _ := hr
    rw [hh] at h2
    injection h2 with h2
    injection h2 with _ h2
    exact absurd h2 (by decide)
/-- Behind an append of frames. -/
theorem Told.grown {w w' : World} {B n m : Nat} {v v' : Value} {ts us : List Tf} (h : Told w B v n ts) (hu : ∀ t ∈ us, t.In w B) (hm : us.length = m) (hp : (ts ++ us).Pairwise Tf.Apart) (ho : w'.ownsRow B 35 6 v' (n + m) (tcs ts ++ tcs us)) (hg : w.grownBy w' v.ownBlock) : Told w' B v' (n + m) (ts ++ us) := by
  refine ⟨by rw [tcs_append]; exact ho, by rw [List.length_append, h.len, hm], fun t ht => ?_, hp⟩
  have hin : t.In w B := by
    rcases List.mem_append.1 ht with h1 | h1
    · exact h.in_ t h1
    · exact hu t h1
  refine ⟨fun hp => ?_⟩
  obtain ⟨q1, q2, q3, q4⟩ := hin.row hp
  exact ⟨q1, q2, (hg.block _ q3.lt (own_row h.own q3)).trans q3, q4⟩
theorem Told.ch {F : List Nat} {w0 w w' : World} {B n : Nat} {v : Value} {ts : List Tf} (h : Told w B v n ts) (hc : Ch F w0 w) (hB : w0.heap.size ≤ B) (hg : w.grownBy w' v.ownBlock) : Ch F w0 w' :=
  hc.grown hg (fun k hk hl => absurd hl (by have := (h.own.lt k hk).1; omega))
theorem Told.lt {w : World} {B n : Nat} {v : Value} {ts : List Tf} (h : Told w B v n ts) : ∀ t ∈ ts, 0 < t.f.b.length → t.g < w.heap.size := fun t ht hp => ((h.in_ t ht).row hp).2.2.1.lt

/-- What stays known in Feed, behind k bytes. -/
structure Fd (w : World) (D : Nat) (d : Dc) (N g : Nat) (A : Option Addr) (l : List UInt8) (k : Nat) (v : Value) (m : Nat) (ts : List Tf) (x : World) : Prop where
  tab : Tab x
  holds : Holds x g A (bcs l)
  dec : Dec x D (d.feed (l.take k)).1 (N + k)
  told : Told x w.heap.size v m ts
  fr : ts.map (·.f) = (d.feed (l.take k)).2
  ch : Ch [D] w x
  le : m ≤ k
  lt : D < w.heap.size
  ne : 0 < l.length → g ≠ D ∧ g < w.heap.size
theorem Fd.keep {w x y : World} {D N g k m : Nat} {d : Dc} {A : Option Addr} {l : List UInt8} {v : Value} {ts : List Tf} (h : Fd w D d N g A l k v m ts x) (hb : Below x.heap.size x y) : Fd w D d N g A l k v m ts y :=
  ⟨h.tab.keep (Ch.of_below hb) (by simp), h.holds.keep (Ch.of_below hb) (by simp), h.dec.keep (Ch.of_below hb) (by simp), h.told.step hb, h.fr, h.ch.join (Ch.of_below hb) (by simp), h.le, h.lt, h.ne⟩
theorem feed_take {d : Dc} {l : List UInt8} {k : Nat} (hk : k < l.length) : d.feed (l.take (k + 1)) = ((((d.feed (l.take k)).1).one l[k]).1, (d.feed (l.take k)).2 ++ (((d.feed (l.take k)).1).one l[k]).2) := by
  rw [List.take_succ_eq_append_getElem hk, feed_snoc]
/-- One byte more, that brings no frame. -/
theorem Fd.next {w x y : World} {D N g k m : Nat} {d d' : Dc} {A : Option Addr} {l : List UInt8} {v : Value} {ts : List Tf} (h : Fd w D d N g A l k v m ts x) (hk : k < l.length) (he : ((d.feed (l.take k)).1).one l[k] = (d', [])) (hd : Dec y D d' (N + k + 1)) (hc : Ch [D] x y) : Fd w D d N g A l (k + 1) v m ts y := by
  have h0 := tab_dec h.tab h.dec
  have hl := h.lt
  refine ⟨h.tab.keep hc (by simp; omega), h.holds.keep hc (fun hp => by simp; exact (h.ne (by rw [bcs_length] at hp; exact hp)).1), ?_, h.told.keep hc (fun g hg => by simp; omega), ?_, h.ch.join hc (by simp), by have := h.le; omega, hl, h.ne⟩
  · rw [feed_take hk, he]
    exact hd
  · rw [feed_take hk, he, List.append_nil]
    exact h.fr
/-- One byte more, that brings one. -/
theorem Fd.more {w x y z : World} {D N g k m c' : Nat} {d d' : Dc} {A A' : Option Addr} {l : List UInt8} {v : Value} {ts : List Tf} {t : Tf} (h : Fd w D d N g A l k v m ts x) (hk : k < l.length) (he : ((d.feed (l.take k)).1).one l[k] = (d', [t.f])) (hd : Dec y D d' (N + k + 1)) (hc : Ch [D] x y) (hi : t.In y x.heap.size)
    (ho : z.ownsRow w.heap.size 35 6 (.slice A' (m + 1) c') (m + 1) (tcs ts ++ tcs [t])) (hg : y.grownBy z v.ownBlock) : Fd w D d N g A l (k + 1) (.slice A' (m + 1) c') (m + 1) (ts ++ [t]) z := by
  have h0 := tab_dec h.tab h.dec
  have hl := h.lt
  have hsz := h.ch.size
  have ht : Told y w.heap.size v m ts := h.told.keep hc (fun g hg => by simp; omega)
  have hyz : Ch [] x x := Ch.refl _ _
  have hblk : ∀ q, some q = v.ownBlock → w.heap.size ≤ q := fun q hq => (ht.own.lt q hq.symm).1
  have hap : (ts ++ [t]).Pairwise Tf.Apart := by
    rw [List.pairwise_append]
    refine ⟨h.told.apart, by simp, fun a ha b hb => ?_⟩
    simp at hb
    subst hb
    intro hp1 hp2
    have := h.told.lt a ha hp1
    have := (hi.row hp2).2.2.2
    omega
  have htt := ht.grown (us := [t]) (fun s hs => by simp at hs; subst hs; exact hi.mono hsz) rfl hap ho hg
  have hc2 : Ch [D] w z := ht.ch (h.ch.join hc (by simp)) (Nat.le_refl _) hg
  refine ⟨⟨Nat.lt_of_lt_of_le h.tab.1 (Nat.le_trans hc.size hg.size), fun i hi' => ?_⟩, ?_, ?_, htt, ?_, hc2, by have := h.le; omega, hl, h.ne⟩
  · have h1 := (h.tab.keep hc (by simp; omega)).2 i hi'
    have h2 := (h.tab.keep hc (by simp; omega)).1
    refine (World.cell?_of_block (hg.block 0 h2 (fun hq => ?_))).trans h1
    have := hblk 0 hq
    omega
  · have h1 : Holds y g A (bcs l) := h.holds.keep hc (fun hp => by simp; exact (h.ne (by rw [bcs_length] at hp; exact hp)).1)
    intro hp
    obtain ⟨q1, o, q2, q3⟩ := h1 hp
    refine ⟨Nat.lt_of_lt_of_le q1 hg.size, o, q2, fun j u hu => ?_⟩
    refine (World.cell?_of_block (hg.block g q1 (fun hq => ?_))).trans (q3 j u hu)
    have := hblk g hq
    have := (h.ne (by rw [bcs_length] at hp; exact hp)).2
    omega
  · rw [feed_take hk, he]
    obtain ⟨buf, hb, hbt⟩ := hd.box
    refine ⟨⟨buf, ⟨(hg.block D hb.lt (fun hq => ?_)).trans hb.box, hb.len⟩, hbt⟩, hd.ok, hd.most⟩
    have := hblk D hq
    omega
  · rw [feed_take hk, he, List.map_append, h.fr]
    rfl

/-- What Feed answers. -/
def FeedPost (w : World) (D : Nat) (d : Dc) (N : Nat) (l : List UInt8) (e : Ending) (w' : World) : Prop :=
  ∃ (A' : Option Addr) (m c' : Nat) (ts : List Tf), e = .returned (.slice A' m c') ∧ Told w' w.heap.size (.slice A' m c') m ts ∧ ts.map (·.f) = (d.feed l).2 ∧ m ≤ l.length ∧ Dec w' D (d.feed l).1 (N + l.length) ∧ Tab w' ∧ Ch [D] w w'

set_option maxHeartbeats 4000000 in
set_option maxRecDepth 100000 in
theorem feed_on {D N g n c : Nat} {A : Option Addr} {l : List UInt8} {d : Dc} {w : World} (ht : Tab w) (hd : Dec w D d N) (h : Holds w g A (bcs l)) (hn : l.length = n) (hg : 0 < n → g ≠ D) (hN : N + n ≤ 1000000000) :
    Calls Tryd.prog 10 #[.pointer (some ⟨D, 0, none⟩), .slice A n c] w (FeedPost w D d N l) := by
  obtain ⟨i0, hi, hz0, hz1, hz2⟩ := info_parts info_frame
  have HN := Lib.hid hn
  have H0 : Hid (Fd w D d N g A l 0 (.slice none 0 0) 0 [] w) := ⟨ht, h, hd, Told.nil _ _, rfl, Ch.refl _ _, Nat.le_refl _, hd.lt, fun hp => ⟨hg (by omega), (h (by rw [bcs_length]; exact hp)).1⟩⟩
  clear h ht hd hn hg
  go_enter Tryd.func10, Tryd.ntmps10
  go_wp2
  go_loopw [5, 12] (fun v i wr => ∃ (k m c' : Nat) (A' : Option Addr) (ts : List Tf), k ≤ n ∧ i = .int .i64 k ∧ v = .slice A' m c' ∧ Hid (Fd w D d N g A l k (.slice A' m c') m ts wr)) (fun _ i _ => n - (intOf i).toNat)
  case atStart => exact ⟨0, 0, 0, none, [], Nat.zero_le _, rfl, rfl, H0⟩
  case round =>
    obtain ⟨k, m, c', A', ts, hk, rfl, rfl, H⟩ := hrel
    by_cases hlt : k < n
    · have hkl : k < l.length := by rw [HN.out]; exact hlt
      obtain ⟨_, o, rfl, hcells⟩ := H.out.holds (by rw [bcs_length]; omega)
      have hc := hcells k _ (bcs_get l k hkl)
      clear hcells
      have hlt' : (k : Int) < (n : Int) := by omega
      have hd := Lib.hid H.out.dec
      obtain ⟨b, hb⟩ : ∃ b, l[k]'hkl = b := ⟨_, rfl⟩
      have HB := Lib.hid hb
      rw [hb] at hc
      clear hb
      by_cases hb : b = 126
      · subst hb
        rw [show ((126 : UInt8).toNat : Int) = 126 from rfl] at hc
        go_wp2_with fail
        refine (end_on H.out.tab hd.out (by omega)).mono ?_
        rintro e x1 ⟨t, ok, rfl, hfr, hin, hd1, hc1⟩
        have HFR : Hid ((d.feed (l.take k)).1.one (l[k]'hkl) = ((Dc.one (d.feed (l.take k)).1 126).1, if ok then [t.f] else [])) := by
          show _ = _
          rw [HB.out, ← hfr]
        rw [show t.cells.toArray = #[.int .u8 (t.f.a : Int), .int .u8 (t.f.k : Int), .int .u8 (t.f.s : Int), .int .u8 (t.f.q : Int), .int .u8 (t.f.c : Int), .slice t.A t.f.b.length t.c] from rfl]
        have HIN := Lib.hid hin
        have HD1 := Lib.hid hd1
        have HC1 := Lib.hid hc1
        clear hfr hin hd1 hc1 hd
        generalize (Dc.one (d.feed (l.take k)).1 126).1 = d' at *
        cases ok
        · have H1 := Lib.hid ((H.out.next hkl HFR.out HD1.out HC1.out).keep (new_below x1 (.cells #[.int .u8 (t.f.a : Int), .int .u8 (t.f.k : Int), .int .u8 (t.f.s : Int), .int .u8 (t.f.q : Int), .int .u8 (t.f.c : Int), .slice t.A t.f.b.length t.c] 35)))
          clear HFR HIN HD1 HC1 H
          generalize t.f.b.length = bl at *
          go_wp2
          go_roundw
          case rel => exact ⟨k + 1, m, c', A', ts, by omega, by go_num, rfl, H1⟩
          case measure => simp [intOf]; omega
        · obtain ⟨x3, hx3⟩ : ∃ y, y = (x1.alloc (.cells #[.int .u8 (t.f.a : Int), .int .u8 (t.f.k : Int), .int .u8 (t.f.s : Int), .int .u8 (t.f.q : Int), .int .u8 (t.f.c : Int), .slice t.A t.f.b.length t.c] 35)).alloc (.cells #[.int .u8 (t.f.a : Int), .int .u8 (t.f.k : Int), .int .u8 (t.f.s : Int), .int .u8 (t.f.q : Int), .int .u8 (t.f.c : Int), .slice t.A t.f.b.length t.c] 35) := ⟨_, rfl⟩
          have HB3 : Hid (Below x1.heap.size x1 x3) := by rw [hx3]; exact new_below2 x1 _ _
          have HH3 : Hid (Holds x3 (x1.heap.size + 1) (some ⟨x1.heap.size + 1, 0, none⟩) (tcs [t])) := by
            rw [hx3]
            exact Holds.of_row (heap_alloc2_new x1 (.cells #[.int .u8 (t.f.a : Int), .int .u8 (t.f.k : Int), .int .u8 (t.f.s : Int), .int .u8 (t.f.q : Int), .int .u8 (t.f.c : Int), .slice t.A t.f.b.length t.c] 35) (.cells #[.int .u8 (t.f.a : Int), .int .u8 (t.f.k : Int), .int .u8 (t.f.s : Int), .int .u8 (t.f.q : Int), .int .u8 (t.f.c : Int), .slice t.A t.f.b.length t.c] 35))
          have HO3 : Hid (x3.ownsRow w.heap.size 35 6 (.slice A' m c') m (tcs ts)) := by
            have hl := H.out.lt
            exact ((H.out.told.keep HC1.out (fun g hg => by simp; omega)).step HB3.out).own
          have hle := H.out.le
          have hsz : w.heap.size ≤ x3.heap.size := Nat.le_trans H.out.ch.size (Nat.le_trans HC1.out.size HB3.out.size)
          generalize hbl : t.f.b.length = bl at *
          have HBL := Lib.hid hbl
          clear hbl
          have h6 : Hid ((tcs [t]).length = 1 * 6) := tcs_length [t]
          go_wp2_with (at_builtin; rw [← hx3]; refine wpList_append_wide rfl (.tmp 27) (.tmp 29) 31 rfl w.heap.size 35 i0 (.agg noFrame) 6 32 Tryd.underlying31 hi hz0 hz1 hz2 rfl (by decide) (.slice A' m c') m (tcs ts) rfl HO3.out (x1.heap.size + 1) (some ⟨x1.heap.size + 1, 0, none⟩) 1 1 (tcs [t]) rfl h6.out HH3.out (tcs_oneCell _) (by unfold maxLen; omega) (by omega) hsz ?_; intro A2 c2 w2 hown2 hgr2; have H2 := Lib.hid (H.out.more hkl HFR.out (HD1.out.keep (Ch.of_below HB3.out) (by simp)) (HC1.out.join (Ch.of_below HB3.out) (by simp)) (HIN.out.keep (Ch.of_below HB3.out) (by simp)) hown2 hgr2); clear hown2 hgr2)
          go_roundw
          case rel => exact ⟨k + 1, m + 1, c2, A2, ts ++ [t], by omega, by go_num, rfl, H2⟩
          case measure => simp [intOf]; omega
      · have hbn : ((b.toNat : Int) != 126) = true := by rw [bne_iff_ne]; intro hh; exact hb (by apply UInt8.toNat_inj.1; show b.toNat = 126; omega)
        go_wp2_with fail
        refine (hold_on hd.out hb (by omega)).mono ?_
        rintro e x1 ⟨rfl, hd1, hc1⟩
        have H1 : Hid (Fd w D d N g (some ⟨g, o, none⟩) l (k + 1) (.slice A' m c') m ts x1) := by
          refine H.out.next hkl (d' := (Dc.one (d.feed (l.take k)).1 b).1) ?_ hd1 hc1
          rw [HB.out]
          unfold Dc.one
          rw [if_neg hb]
          repeat' split
          all_goals rfl
        clear hd1 hc1 H
        go_wp2
        go_roundw
        case rel => exact ⟨k + 1, m, c', A', ts, by omega, by go_num, rfl, H1⟩
        case measure => simp [intOf]; omega
    · have hkm : k = n := by omega
      subst hkm
      go_wp2
      go_ret
      have h1 := H.out.fr
      have h2 := H.out.dec
      rw [List.take_of_length_le (by rw [HN.out]; exact Nat.le_refl _)] at h1 h2
      exact ⟨A', m, c', ts, rfl, H.out.told, h1, by rw [HN.out]; exact H.out.le, by rw [HN.out]; exact h2, H.out.tab, H.out.ch⟩

end Go.Proofs.YtalolefggihloaaDoor
