/-
  Frames out of noise, more: pieces between flags as the document's answer takes them; how many pieces there are; one byte again and again. Nothing of the program is named here.
-/
import Derived.Test.YtalolefggihloaaDoorResyncMath
namespace Go.Proofs.YtalolefggihloaaDoor
set_option linter.unusedVariables false
set_option linter.unusedSimpArgs false
open Go.RowKit

/-- What is known of whole pieces: errors, frames. -/
structure Pc where
  errs : Nat → Nat
  fr : List Fr
def Pc.zero : Pc := ⟨fun _ => 0, []⟩
/-- One piece more, and its flag. -/
def Pc.piece (t : Pc) (own : List UInt8) : Pc :=
  if 62 < own.length then ⟨bump t.errs 10, t.fr⟩
  else if own = [] then t
  else if decE own = 0 then ⟨t.errs, t.fr ++ [decF own]⟩
  else ⟨bump t.errs (decE own), t.fr⟩
/-- A decoder behind whole pieces t, and the bytes own since the last flag. -/
structure Mt (t : Pc) (own : List UInt8) (d : Dc) (fr : List Fr) : Prop where
  held : d.held = if 62 < own.length then [] else own
  over : d.over = decide (62 < own.length)
  errs : d.errs = if 62 < own.length then bump t.errs 10 else t.errs
  fr : fr = t.fr
theorem Mt.zero : Mt Pc.zero [] Dc.zero [] := ⟨rfl, rfl, rfl, rfl⟩
theorem Mt.flag {t : Pc} {own : List UInt8} {d : Dc} {fr : List Fr} (h : Mt t own d fr) : Mt (t.piece own) [] (d.one 126).1 (fr ++ (d.one 126).2) := by
  have h1 := h.held
  have h2 := h.over
  have h3 := h.errs
  have h4 := h.fr
  subst h4
  unfold Dc.one Pc.piece
  rw [if_pos rfl]
  by_cases hl : 62 < own.length
  · rw [if_pos hl] at h1 h3
    rw [decide_eq_true hl] at h2
    rw [if_pos h2, if_pos hl]
    exact ⟨rfl, rfl, h3, by simp⟩
  · rw [if_neg hl] at h1 h3
    rw [decide_eq_false hl] at h2
    rw [if_neg hl, if_neg (show ¬ d.over = true by rw [h2]; decide), h1]
    by_cases h0 : own = []
    · rw [if_pos h0, if_pos h0]
      exact ⟨by rw [h1, h0]; rfl, h2, h3, by simp⟩
    · rw [if_neg h0, if_neg h0]
      by_cases hd : decE own = 0
      · rw [if_pos hd, if_pos hd]
        exact ⟨rfl, rfl, h3, rfl⟩
      · rw [if_neg hd, if_neg hd]
        exact ⟨rfl, rfl, by rw [h3]; rfl, by simp⟩
theorem Mt.byte {t : Pc} {own : List UInt8} {d : Dc} {fr : List Fr} (h : Mt t own d fr) (b : UInt8) (hb : b ≠ 126) : Mt t (own ++ [b]) (d.one b).1 (fr ++ (d.one b).2) := by
  have h1 := h.held
  have h2 := h.over
  have h3 := h.errs
  have h4 := h.fr
  subst h4
  unfold Dc.one
  rw [if_neg hb]
  by_cases hl : 62 < own.length
  · rw [if_pos hl] at h1 h3
    rw [decide_eq_true hl] at h2
    rw [if_pos h2]
    have hl' : 62 < (own ++ [b]).length := by simp; omega
    exact ⟨by rw [if_pos hl']; exact h1, by rw [decide_eq_true hl']; exact h2, by rw [if_pos hl']; exact h3, by simp⟩
  · rw [if_neg hl] at h1 h3
    rw [decide_eq_false hl] at h2
    rw [if_neg (by rw [h2]; decide), h1]
    by_cases he : own.length = 62
    · rw [if_pos he]
      have hl' : 62 < (own ++ [b]).length := by simp; omega
      exact ⟨by rw [if_pos hl'], by rw [decide_eq_true hl'], by rw [if_pos hl', h3], by simp⟩
    · rw [if_neg he]
      have hl' : ¬ 62 < (own ++ [b]).length := by simp; omega
      exact ⟨by rw [if_neg hl'], by rw [decide_eq_false hl'], by rw [if_neg hl', h3], by simp⟩

/-- Bytes taken as pieces. -/
def Pc.run (t : Pc) (own : List UInt8) : List UInt8 → Pc × List UInt8
  | [] => (t, own)
  | b :: l => if b = 126 then Pc.run (t.piece own) [] l else Pc.run t (own ++ [b]) l
theorem run_feed : ∀ (l : List UInt8) (t : Pc) (own : List UInt8) (d : Dc) (fr : List Fr), Mt t own d fr → Mt (t.run own l).1 (t.run own l).2 (d.feed l).1 (fr ++ (d.feed l).2)
  | [], t, own, d, fr, h => by simpa [Pc.run, Dc.feed] using h
  | b :: l, t, own, d, fr, h => by
    by_cases hb : b = 126
    · subst hb
      have := run_feed l (t.piece own) [] (d.one 126).1 (fr ++ (d.one 126).2) h.flag
      rw [Pc.run, if_pos rfl, feed_cons]
      simpa [List.append_assoc] using this
    · have := run_feed l t (own ++ [b]) (d.one b).1 (fr ++ (d.one b).2) (h.byte b hb)
      rw [Pc.run, if_neg hb, feed_cons]
      simpa [List.append_assoc] using this
/-- All at once, from nothing on. -/
theorem feed_pieces (l : List UInt8) : Mt (Pc.zero.run [] l).1 (Pc.zero.run [] l).2 (Dc.zero.feed l).1 (Dc.zero.feed l).2 := by
  have := run_feed l Pc.zero [] Dc.zero [] Mt.zero
  simpa using this

/-- Pieces that are not empty, those of more than sixty-two bytes, bytes since the last flag. -/
structure Ct where
  pieces : Nat
  long : Nat
  n : Nat
def Ct.one (c : Ct) (b : UInt8) : Ct := if b = 126 then ⟨c.pieces + (if 0 < c.n then 1 else 0), c.long + (if 62 < c.n then 1 else 0), 0⟩ else ⟨c.pieces, c.long, c.n + 1⟩
structure Kt (c : Ct) (t : Pc) (own : List UInt8) : Prop where
  n : own.length = c.n
  all : t.fr.length + total t.errs = c.pieces
  long : t.errs 10 = c.long
  none : t.errs 0 = 0
theorem decE_is (l : List UInt8) : decE l ≠ 10 := by have := decE_le l; omega
theorem Kt.zero : Kt ⟨0, 0, 0⟩ Pc.zero [] := ⟨rfl, by decide, rfl, rfl⟩
theorem Kt.flag {c : Ct} {t : Pc} {own : List UInt8} (h : Kt c t own) : Kt (c.one 126) (t.piece own) [] := by
  have h1 := h.n
  have h2 := h.all
  have h3 := h.long
  have h4 := h.none
  unfold Ct.one Pc.piece
  rw [if_pos rfl]
  by_cases hl : 62 < own.length
  · rw [if_pos hl, if_pos (by omega), if_pos (by omega)]
    refine ⟨rfl, ?_, ?_, ?_⟩
    · show t.fr.length + total (bump t.errs 10) = c.pieces + 1
      rw [total_bump _ _ (by omega)]
      omega
    · show bump t.errs 10 10 = c.long + 1
      rw [bump_same, h3]
    · show bump t.errs 10 0 = 0
      rw [bump_other _ _ _ (by decide)]
      exact h4
  · rw [if_neg hl, if_neg (c := 62 < c.n) (by omega)]
    by_cases h0 : own = []
    · have hn : c.n = 0 := by rw [← h1, h0]; rfl
      rw [if_pos h0, if_neg (by omega)]
      exact ⟨rfl, h2, h3, h4⟩
    · have hn : 0 < c.n := by rw [← h1]; exact List.length_pos_iff.2 h0
      rw [if_neg h0, if_pos hn]
      by_cases hd : decE own = 0
      · rw [if_pos hd]
        refine ⟨rfl, ?_, h3, h4⟩
        show (t.fr ++ [decF own]).length + total t.errs = c.pieces + 1
        simp
        omega
      · rw [if_neg hd]
        refine ⟨rfl, ?_, ?_, ?_⟩
        · show t.fr.length + total (bump t.errs (decE own)) = c.pieces + 1
          rw [total_bump _ _ (by have := decE_le own; omega)]
          omega
        · show bump t.errs (decE own) 10 = c.long + 0
          rw [bump_other _ _ _ (Ne.symm (decE_is own))]
          exact h3
        · show bump t.errs (decE own) 0 = 0
          rw [bump_other _ _ _ (Ne.symm hd)]
          exact h4
theorem Kt.byte {c : Ct} {t : Pc} {own : List UInt8} (h : Kt c t own) (b : UInt8) (hb : b ≠ 126) : Kt (c.one b) t (own ++ [b]) := by
  unfold Ct.one
  rw [if_neg hb]
  exact ⟨by show _ = c.n + 1; simp [h.n], h.all, h.long, h.none⟩
def Ct.run (c : Ct) (l : List UInt8) : Ct := l.foldl Ct.one c
theorem run_count : ∀ (l : List UInt8) (c : Ct) (t : Pc) (own : List UInt8), Kt c t own → Kt (c.run l) (t.run own l).1 (t.run own l).2
  | [], _, _, _, h => h
  | b :: l, c, t, own, h => by
    by_cases hb : b = 126
    · subst hb
      have := run_count l (c.one 126) (t.piece own) [] h.flag
      rw [Pc.run, if_pos rfl]
      exact this
    · have := run_count l (c.one b) t (own ++ [b]) (h.byte b hb)
      rw [Pc.run, if_neg hb]
      exact this
theorem ct_flag (c : Ct) : (c.one 126).n = 0 := by simp [Ct.one]
/-- Bytes and a flag: as many frames and errors as pieces that are not empty. -/
theorem counts_told (l : List UInt8) : (Dc.zero.feed (l ++ [126])).2.length + total (Dc.zero.feed (l ++ [126])).1.errs = ((Ct.mk 0 0 0).run (l ++ [126])).pieces ∧
    (Dc.zero.feed (l ++ [126])).1.errs 10 = ((Ct.mk 0 0 0).run (l ++ [126])).long ∧ (Dc.zero.feed (l ++ [126])).1.errs 0 = 0 := by
  have hm := feed_pieces (l ++ [126])
  have hk := run_count (l ++ [126]) ⟨0, 0, 0⟩ Pc.zero [] Kt.zero
  have hn : ((Ct.mk 0 0 0).run (l ++ [126])).n = 0 := by
    unfold Ct.run
    rw [List.foldl_append]
    exact ct_flag _
  have h0 : (Pc.zero.run [] (l ++ [126])).2.length = 0 := by rw [hk.n, hn]
  have he := hm.errs
  rw [if_neg (by omega)] at he
  rw [hm.fr, he]
  exact ⟨hk.all, hk.long, hk.none⟩

/-- One byte, again and again. -/
theorem feed_same (c : UInt8) (hc : c ≠ 126) (n : Nat) : Dc.zero.feed (List.replicate n c) = if n ≤ 62 then (⟨List.replicate n c, false, fun _ => 0⟩, []) else (⟨[], true, bump (fun _ => 0) 10⟩, []) := by
  have := feed_plain (List.replicate n c) Dc.zero rfl rfl (fun b hb => by rw [List.eq_of_mem_replicate hb]; exact hc)
  rw [this]
  simp [Dc.zero]

end Go.Proofs.YtalolefggihloaaDoor
