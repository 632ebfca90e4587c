/-
  Rows of frames, as two wires have them: a slice of one's own that begins anywhere in its row; one more behind, the first left out, the first once more. By the numbers of their blocks, for two of them are of one type.
-/
import Derived.Test.YtdcnmbglbopgdaaSlaMath
import Derived.Test.YtdcnmbglbopgdaaMasG
namespace Go.Proofs.Ytdcnmbglbopgdaa
set_option linter.unusedVariables false
set_option linter.unusedSimpArgs false
open Go.RowKit

/-- The block that a slice lies in. -/
def ablk (A : Option Addr) : List Nat := match A with
  | none => []
  | some ad => [ad.block]
/-- A frame that is kept: its bytes' slice. -/
structure Kf where
  f : Fr
  A : Option Addr
  c : Nat
def Kf.cells (t : Kf) : List Value := [.int .u8 (t.f.a : Int), .int .u8 (t.f.k : Int), .int .u8 (t.f.s : Int), .int .u8 (t.f.q : Int), .int .u8 (t.f.c : Int), .slice t.A t.f.b.length t.c]
def kcs (ts : List Kf) : List Value := ts.flatMap Kf.cells
/-- A row of frames, from B on. -/
structure Fq (w : World) (B : Nat) (A : Option Addr) (c : Nat) (ts : List Kf) (fs : List Fr) : Prop where
  eqs : ts.map (·.f) = fs
  que : Que w B 36 6 A fs.length c (kcs ts)
  by_ : ∀ t ∈ ts, Hb w 0 t.A t.f.b
theorem Fq.len {w : World} {B c : Nat} {A : Option Addr} {ts : List Kf} {fs : List Fr} (h : Fq w B A c ts fs) : ts.length = fs.length := by rw [← h.eqs, List.length_map]
theorem Fq.nil (w : World) (B : Nat) : Fq w B none 0 [] [] := ⟨rfl, Que.nil _ _ _ _, by intro t ht; cases ht⟩
theorem Fq.ft {w w' : World} {B B' c : Nat} {A : Option Addr} {T : List TypeId} {ts : List Kf} {fs : List Fr} (h : Fq w B A c ts fs) (hc : Ft B' T w w') (h1 : 36 ∉ T) (h2 : 5 ∉ T) : Fq w' B A c ts fs :=
  ⟨h.eqs, h.que.ft hc h1, fun t ht => (h.by_ t ht).ft hc h2 (Nat.zero_le _)⟩
theorem Fq.step {w w' : World} {B c : Nat} {A : Option Addr} {ts : List Kf} {fs : List Fr} (h : Fq w B A c ts fs) (hb : Below w.heap.size w w') : Fq w' B A c ts fs := h.ft (B' := 0) (T := []) (Ft.of_below hb) (by simp) (by simp)
/-- Something of another row of frames has turned. -/
theorem Fq.other {w w' : World} {B c : Nat} {A : Option Addr} {F : List Nat} {ts : List Kf} {fs : List Fr} (h : Fq w B A c ts fs) (hc : Ch F w w') (hF : ∀ b ∈ F, BlockIn w b [36]) (hne : ∀ b ∈ ablk A, b ∉ F) : Fq w' B A c ts fs := by
  have hft : Ft 0 [36] w w' := Ft.of_ch hc (fun x hx _ => ⟨Nat.zero_le _, hF x hx⟩)
  refine ⟨h.eqs, ?_, fun t ht => (h.by_ t ht).ft hft (by decide)⟩
  refine ⟨h.que.1, ?_⟩
  rcases h.que.2 with hn | ⟨g, o, cur, rfl, h2, h3, h4⟩
  · exact .inl hn
  · exact .inr ⟨g, o, cur, rfl, h2, (hc.block g (Array.getElem?_eq_some_iff.1 h3).1 (hne g (by simp [ablk]))).trans h3, h4⟩
end Go.Proofs.Ytdcnmbglbopgdaa
