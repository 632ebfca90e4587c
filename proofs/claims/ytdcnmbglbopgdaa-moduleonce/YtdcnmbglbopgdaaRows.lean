/-
  No cell of these rows narrows 'for every input' (looked for: loops, veiled, ifaces, maps, wideKeys, modest, calm, conditions, laid).
  DERIVED. THE GIVEN ROWS OF THIS SEAT. 6 by the template 'for every input the law returns true; each argument reads behind the call as it read before'; 0 by the template 'total and deterministic' (their statements: YtdcnmbglbopgdaaTotals.lean).
  GIVEN WITH THE SEED: the statements are not yours to turn. If you find one false, say at which input.
  Laid BY PROGRAM, IN A SANDBOX (cutbox-rows.mjs): the forced cells as the released guide's own fill.sh prints them over the translation 9a43cf61417d0f1e… (all of the seat's roots in one cut). By AI agents, Wed Nov 11 2026. No macro, syntax, notation, axiom, sorry.
-/
import Derived.Test.YtdcnmbglbopgdaaChecked
import GoSem.Claim
import GoSem.ClaimJoined
import GoSem.ClaimMapViews
import Derived.JoinedTies
import Derived.KernelRfl
namespace Go.Proofs.Ytdcnmbglbopgdaa
/- THE CELL 'sum', in the pinned program and in every row, IS THE sha256 OF THE DUMP (.gsa) THAT YtdcnmbglbopgdaaProg.lean LOADS. Nothing in Lean hashes anything: it is a label: what it is worth is what the hold of that sum in a sandbox is worth. -/
noncomputable def Try.pinned : Pinned := { name := "ytdcnmbglbopgdaa", sum := "9a43cf61417d0f1eab0d1d17748604711ac37a86064d34f279fc53fef2fd5f86", checked := Try.checked }
namespace Rows
def none {H : Type} : Left H := { results := [], args := [] }

/-- 'lamplightlaw11.ModuleTells': WHATEVER THE INPUT: true; the input reads as it did. -/
def moduleTellsSpec : ChangeSpec := { name := "moduleTells", fn := fun _ => fun
  | [d] => { results := [.lit (.bool true)], args := [d] }
  | _ => none }
def moduleTellsRow : OpenClaim := { program := "ytdcnmbglbopgdaa", sum := "9a43cf61417d0f1eab0d1d17748604711ac37a86064d34f279fc53fef2fd5f86", func := "lamplight/lamplightlaw11.ModuleTells", spec := "moduleTells", apart := false }
def ModuleTellsSaid : Prop := moduleTellsRow.holds Try.pinned (OpenSpec.ofChange moduleTellsSpec)

/-- ITS FALSE NEIGHBOUR: 'it returns false'. Refute it at one input. -/
def moduleTellsWrong : ChangeSpec := { name := "moduleTells", fn := fun _ => fun
  | [d] => { results := [.lit (.bool false)], args := [d] }
  | _ => none }
def ModuleTellsWrongFalsely : Prop := moduleTellsRow.holds Try.pinned (OpenSpec.ofChange moduleTellsWrong)

/-- 'lamplightlaw11.ModuleBytes': WHATEVER THE INPUT: true; the input reads as it did. -/
def moduleBytesSpec : ChangeSpec := { name := "moduleBytes", fn := fun _ => fun
  | [d1, d2, d3] => { results := [.lit (.bool true)], args := [d1, d2, d3] }
  | _ => none }
def moduleBytesRow : OpenClaim := { program := "ytdcnmbglbopgdaa", sum := "9a43cf61417d0f1eab0d1d17748604711ac37a86064d34f279fc53fef2fd5f86", func := "lamplight/lamplightlaw11.ModuleBytes", spec := "moduleBytes", apart := false }
def ModuleBytesSaid : Prop := moduleBytesRow.holds Try.pinned (OpenSpec.ofChange moduleBytesSpec)

/-- ITS FALSE NEIGHBOUR: 'it returns false'. Refute it at one input. -/
def moduleBytesWrong : ChangeSpec := { name := "moduleBytes", fn := fun _ => fun
  | [d1, d2, d3] => { results := [.lit (.bool false)], args := [d1, d2, d3] }
  | _ => none }
def ModuleBytesWrongFalsely : Prop := moduleBytesRow.holds Try.pinned (OpenSpec.ofChange moduleBytesWrong)

/-- 'lamplightlaw11.ModuleOnce': WHATEVER THE INPUT: true; the input reads as it did. -/
def moduleOnceSpec : ChangeSpec := { name := "moduleOnce", fn := fun _ => fun
  | [d1, d2, d3] => { results := [.lit (.bool true)], args := [d1, d2, d3] }
  | _ => none }
def moduleOnceRow : OpenClaim := { program := "ytdcnmbglbopgdaa", sum := "9a43cf61417d0f1eab0d1d17748604711ac37a86064d34f279fc53fef2fd5f86", func := "lamplight/lamplightlaw11.ModuleOnce", spec := "moduleOnce", apart := false }
def ModuleOnceSaid : Prop := moduleOnceRow.holds Try.pinned (OpenSpec.ofChange moduleOnceSpec)

/-- ITS FALSE NEIGHBOUR: 'it returns false'. Refute it at one input. -/
def moduleOnceWrong : ChangeSpec := { name := "moduleOnce", fn := fun _ => fun
  | [d1, d2, d3] => { results := [.lit (.bool false)], args := [d1, d2, d3] }
  | _ => none }
def ModuleOnceWrongFalsely : Prop := moduleOnceRow.holds Try.pinned (OpenSpec.ofChange moduleOnceWrong)

/-- 'lamplightlaw11.ModuleSame': WHATEVER THE INPUT: true; the input reads as it did. -/
def moduleSameSpec : ChangeSpec := { name := "moduleSame", fn := fun _ => fun
  | [d1, d2, d3, d4, d5] => { results := [.lit (.bool true)], args := [d1, d2, d3, d4, d5] }
  | _ => none }
def moduleSameRow : OpenClaim := { program := "ytdcnmbglbopgdaa", sum := "9a43cf61417d0f1eab0d1d17748604711ac37a86064d34f279fc53fef2fd5f86", func := "lamplight/lamplightlaw11.ModuleSame", spec := "moduleSame", apart := false }
def ModuleSameSaid : Prop := moduleSameRow.holds Try.pinned (OpenSpec.ofChange moduleSameSpec)

/-- ITS FALSE NEIGHBOUR: 'it returns false'. Refute it at one input. -/
def moduleSameWrong : ChangeSpec := { name := "moduleSame", fn := fun _ => fun
  | [d1, d2, d3, d4, d5] => { results := [.lit (.bool false)], args := [d1, d2, d3, d4, d5] }
  | _ => none }
def ModuleSameWrongFalsely : Prop := moduleSameRow.holds Try.pinned (OpenSpec.ofChange moduleSameWrong)

/-- 'lamplightlaw11.ModuleDark': WHATEVER THE INPUT: true; the input reads as it did. -/
def moduleDarkSpec : ChangeSpec := { name := "moduleDark", fn := fun _ => fun
  | [d1, d2, d3] => { results := [.lit (.bool true)], args := [d1, d2, d3] }
  | _ => none }
def moduleDarkRow : OpenClaim := { program := "ytdcnmbglbopgdaa", sum := "9a43cf61417d0f1eab0d1d17748604711ac37a86064d34f279fc53fef2fd5f86", func := "lamplight/lamplightlaw11.ModuleDark", spec := "moduleDark", apart := false }
def ModuleDarkSaid : Prop := moduleDarkRow.holds Try.pinned (OpenSpec.ofChange moduleDarkSpec)

/-- ITS FALSE NEIGHBOUR: 'it returns false'. Refute it at one input. -/
def moduleDarkWrong : ChangeSpec := { name := "moduleDark", fn := fun _ => fun
  | [d1, d2, d3] => { results := [.lit (.bool false)], args := [d1, d2, d3] }
  | _ => none }
def ModuleDarkWrongFalsely : Prop := moduleDarkRow.holds Try.pinned (OpenSpec.ofChange moduleDarkWrong)

/-- 'lamplightlaw11.ModuleReset': WHATEVER THE INPUT: true; the input reads as it did. -/
def moduleResetSpec : ChangeSpec := { name := "moduleReset", fn := fun _ => fun
  | [d1, d2, d3] => { results := [.lit (.bool true)], args := [d1, d2, d3] }
  | _ => none }
def moduleResetRow : OpenClaim := { program := "ytdcnmbglbopgdaa", sum := "9a43cf61417d0f1eab0d1d17748604711ac37a86064d34f279fc53fef2fd5f86", func := "lamplight/lamplightlaw11.ModuleReset", spec := "moduleReset", apart := false }
def ModuleResetSaid : Prop := moduleResetRow.holds Try.pinned (OpenSpec.ofChange moduleResetSpec)

/-- ITS FALSE NEIGHBOUR: 'it returns false'. Refute it at one input. -/
def moduleResetWrong : ChangeSpec := { name := "moduleReset", fn := fun _ => fun
  | [d1, d2, d3] => { results := [.lit (.bool false)], args := [d1, d2, d3] }
  | _ => none }
def ModuleResetWrongFalsely : Prop := moduleResetRow.holds Try.pinned (OpenSpec.ofChange moduleResetWrong)

/- THE SECOND FORM. 'bulk': how many values and letters a reading holds, each counted each time it is reached (what is shared counts as often as it is met; a slice's spare places count too). A statement '..UptoSaid' is the law's where the arguments, and the package variables that the reading takes, are together of bulk at most 1048576: NARROWER than '..Said'. Prove '..Said' where nothing that the law and all that it calls make is longer than what came in: it says more and counts as full. Else prove '..UptoSaid'. A law counts once. -/
mutual
def uptoBulk {H : Type} : DataW H → Nat
  | .lit (.string bytes) => bytes.length + 1
  | .lit _ => 1
  | .nil => 1
  | .ptr d => uptoBulk d + 1
  | .slice elems spare => uptoBulkAll elems + uptoBulkAll spare + 1
  | .agg parts => uptoBulkAll parts + 1
  | .iface _ d => uptoBulk d + 1
  | .map entries => uptoBulkEntries entries + 1
  | .held _ => 1
def uptoBulkAll {H : Type} : List (DataW H) → Nat
  | [] => 0
  | d :: r => uptoBulk d + uptoBulkAll r
def uptoBulkEntries {H : Type} : List (Lit × DataW H) → Nat
  | [] => 0
  | x :: r => uptoBulkEntry x + uptoBulkEntries r
def uptoBulkEntry {H : Type} : Lit × DataW H → Nat
  | (.string bytes, d) => bytes.length + uptoBulk d + 1
  | (_, d) => uptoBulk d + 1
 end
def uptoSmall : (H : Type) → List (DataW H) → Bool := fun _ ds => decide (uptoBulkAll ds ≤ 1048576)
def OpenSpec.upto (s : _root_.Go.ChangeSpec) : _root_.Go.OpenSpec := { _root_.Go.OpenSpec.ofChange s with cond := some uptoSmall }

/-- 'lamplightlaw11.ModuleTells', WHERE WHAT IT READS IS OF BULK AT MOST 1048576: true; the input reads as it did. -/
def moduleTellsUptoRow : OpenClaim := { program := "ytdcnmbglbopgdaa", sum := "9a43cf61417d0f1eab0d1d17748604711ac37a86064d34f279fc53fef2fd5f86", func := "lamplight/lamplightlaw11.ModuleTells", spec := "moduleTells", apart := false, narrowed := true }
def ModuleTellsUptoSaid : Prop := moduleTellsUptoRow.holds Try.pinned (OpenSpec.upto moduleTellsSpec)

/-- 'lamplightlaw11.ModuleBytes', WHERE WHAT IT READS IS OF BULK AT MOST 1048576: true; the input reads as it did. -/
def moduleBytesUptoRow : OpenClaim := { program := "ytdcnmbglbopgdaa", sum := "9a43cf61417d0f1eab0d1d17748604711ac37a86064d34f279fc53fef2fd5f86", func := "lamplight/lamplightlaw11.ModuleBytes", spec := "moduleBytes", apart := false, narrowed := true }
def ModuleBytesUptoSaid : Prop := moduleBytesUptoRow.holds Try.pinned (OpenSpec.upto moduleBytesSpec)

/-- 'lamplightlaw11.ModuleOnce', WHERE WHAT IT READS IS OF BULK AT MOST 1048576: true; the input reads as it did. -/
def moduleOnceUptoRow : OpenClaim := { program := "ytdcnmbglbopgdaa", sum := "9a43cf61417d0f1eab0d1d17748604711ac37a86064d34f279fc53fef2fd5f86", func := "lamplight/lamplightlaw11.ModuleOnce", spec := "moduleOnce", apart := false, narrowed := true }
def ModuleOnceUptoSaid : Prop := moduleOnceUptoRow.holds Try.pinned (OpenSpec.upto moduleOnceSpec)

/-- 'lamplightlaw11.ModuleSame', WHERE WHAT IT READS IS OF BULK AT MOST 1048576: true; the input reads as it did. -/
def moduleSameUptoRow : OpenClaim := { program := "ytdcnmbglbopgdaa", sum := "9a43cf61417d0f1eab0d1d17748604711ac37a86064d34f279fc53fef2fd5f86", func := "lamplight/lamplightlaw11.ModuleSame", spec := "moduleSame", apart := false, narrowed := true }
def ModuleSameUptoSaid : Prop := moduleSameUptoRow.holds Try.pinned (OpenSpec.upto moduleSameSpec)

/-- 'lamplightlaw11.ModuleDark', WHERE WHAT IT READS IS OF BULK AT MOST 1048576: true; the input reads as it did. -/
def moduleDarkUptoRow : OpenClaim := { program := "ytdcnmbglbopgdaa", sum := "9a43cf61417d0f1eab0d1d17748604711ac37a86064d34f279fc53fef2fd5f86", func := "lamplight/lamplightlaw11.ModuleDark", spec := "moduleDark", apart := false, narrowed := true }
def ModuleDarkUptoSaid : Prop := moduleDarkUptoRow.holds Try.pinned (OpenSpec.upto moduleDarkSpec)

/-- 'lamplightlaw11.ModuleReset', WHERE WHAT IT READS IS OF BULK AT MOST 1048576: true; the input reads as it did. -/
def moduleResetUptoRow : OpenClaim := { program := "ytdcnmbglbopgdaa", sum := "9a43cf61417d0f1eab0d1d17748604711ac37a86064d34f279fc53fef2fd5f86", func := "lamplight/lamplightlaw11.ModuleReset", spec := "moduleReset", apart := false, narrowed := true }
def ModuleResetUptoSaid : Prop := moduleResetUptoRow.holds Try.pinned (OpenSpec.upto moduleResetSpec)

end Rows
end Go.Proofs.Ytdcnmbglbopgdaa
