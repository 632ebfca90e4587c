/-
  lamplightref11.Parse, as it stands.
-/
import Derived.Test.YtdcnmbglbopgdaaModT
import Derived.Deep.QuietTactic
import Derived.BigQuiet
namespace Go.Proofs.Ytdcnmbglbopgdaa
set_option linter.unusedVariables false
set_option linter.unusedSimpArgs false
open Go.RowKit

theorem drewN_below (w : World) (m : Nat) : Below w.heap.size w (w.drewN m) := by
  induction m with
  | zero => exact .refl _ _
  | succ m ih => exact ih.trans (show Below w.heap.size (w.drewN m) (w.drewN (m + 1)) from drew_below (w.drewN m))
theorem results_four {fn : Func} {t u v x : Tmp} (h : fn.results = #[.tmp t, .tmp u, .tmp v, .tmp x]) (tmps : Array Value) (P : Program) (w : World) :
    (results fn tmps).run P w = .ok (.tuple #[tmps.getD t undef, tmps.getD u undef, tmps.getD v undef, tmps.getD x undef]) w := by
  simp [results, h]
set_option maxRecDepth 20000 in
set_option maxHeartbeats 1600000 in
theorem parse_on {x : World} {l : List UInt8} (hl : l.length ≤ 1000) : Calls Try.prog 29 #[.string ⟨l.toArray⟩] x fun e y =>
    e = .returned (.tuple #[.int .u8 ((parse5 l).1 : Int), .int .u16 ((parse5 l).2.1 : Int), .int .u16 ((parse5 l).2.2.1 : Int), .int .i64 (parse5 l).2.2.2]) ∧ Below x.heap.size x y := by
  by_cases h5 : l.length < 5
  · have hp : parse5 l = (0, 0, 0, 2) := by
      unfold parse5
      split
      · simp at h5
      · rw [if_pos h5]
    rw [hp]
    clear hp
    go_enter Try.func29, Try.ntmps29
    go_wp2
    refine bodyPost_ret (results_four rfl _ _ _) rfl ?_
    exact ⟨rfl, .refl _ _⟩
  · by_cases h6 : 5 < l.length
    · have hp : parse5 l = (0, 0, 0, 3) := by
        unfold parse5
        split
        · simp at h6
        · rw [if_neg h5]
      rw [hp]
      clear hp
      go_enter Try.func29, Try.ntmps29
      go_wp2
      refine bodyPost_ret (results_four rfl _ _ _) rfl ?_
      exact ⟨rfl, .refl _ _⟩
    · obtain ⟨k, a, b, c, d, rfl⟩ : ∃ k a b c d, l = [k, a, b, c, d] := by
        match l, h5, h6 with
        | [k, a, b, c, d], _, _ => exact ⟨k, a, b, c, d, rfl⟩
        | [], h, _ | [_], h, _ | [_, _], h, _ | [_, _, _], h, _ | [_, _, _, _], h, _ => simp at h
        | _ :: _ :: _ :: _ :: _ :: _ :: _, _, h => simp at h
      have h1 := k.toNat_lt
      have h2 := a.toNat_lt
      have h3 := b.toNat_lt
      have h4 := c.toNat_lt
      have h7 := d.toNat_lt
      have g0 : (⟨#[k, a, b, c, d]⟩ : ByteArray)[0]'(by show 0 < 5; omega) = k := rfl
      have g1 : (⟨#[k, a, b, c, d]⟩ : ByteArray)[1]'(by show 1 < 5; omega) = a := rfl
      have g2 : (⟨#[k, a, b, c, d]⟩ : ByteArray)[2]'(by show 2 < 5; omega) = b := rfl
      have g3 : (⟨#[k, a, b, c, d]⟩ : ByteArray)[3]'(by show 3 < 5; omega) = c := rfl
      have g4 : (⟨#[k, a, b, c, d]⟩ : ByteArray)[4]'(by show 4 < 5; omega) = d := rfl
      have e1 : ((a.toNat : Int) * 256) % 65536 = (a.toNat : Int) * 256 := by omega
      by_cases hk : k.toNat = 1 ∨ k.toNat = 2
      · have hp : parse5 [k, a, b, c, d] = (k.toNat, a.toNat * 256 + b.toNat, c.toNat * 256 + d.toNat, 0) := by
          unfold parse5
          simp only
          rw [if_pos hk]
        rw [hp]
        clear hp
        go_enter Try.func29, Try.ntmps29
        go_upto_region 5 with fail
        go_quiet (fail)
        go_wp2
        refine bodyPost_ret (results_four rfl _ _ _) rfl ?_
        exact ⟨by go_num, drewN_below _ _⟩
      · have hp : parse5 [k, a, b, c, d] = (0, 0, 0, 3) := by
          unfold parse5
          simp only
          rw [if_neg hk]
        rw [hp]
        clear hp
        go_enter Try.func29, Try.ntmps29
        obtain ⟨hk1, hk2⟩ := not_or.1 hk
        go_wp2
        all_goals
          refine bodyPost_ret (results_four rfl _ _ _) rfl ?_
          exact ⟨rfl, .refl _ _⟩
end Go.Proofs.Ytdcnmbglbopgdaa
