/-
  lamplightref02.Sealed: a text with its sum.
-/
import Derived.Test.YtalolefggihloaaDoorFCrcRef
namespace Go.Proofs.YtalolefggihloaaDoor
set_option linter.unusedVariables false
set_option linter.unusedSimpArgs false
open Go.RowKit

theorem bcs_two (v : Nat) (hv : v < 65536) : bcs [UInt8.ofNat (v / 256), UInt8.ofNat v] = [.int .u8 ((v : Int) / 256), .int .u8 ((v : Int) % 256)] := by
  simp [bcs]
  omega

set_option maxHeartbeats 2000000 in
set_option maxRecDepth 100000 in
theorem ref_sealed (l : List UInt8) (w : World) (hl : l.length ≤ 1000000) : Calls Tryd.prog 33 #[.string ⟨l.toArray⟩] w fun e w' => e = .returned (.string ⟨(sld l).toArray⟩) ∧ Below w.heap.size w w' := by
  go_enter Tryd.func33, Tryd.ntmps33
  go_wp2_with fail
  refine (ref_sum l w hl).mono ?_
  rintro e x1 ⟨rfl, hb1⟩
  have hv : (sum l).toNat < 65536 := (sum l).isLt
  have HB := Lib.hid (bcs_two (sum l).toNat hv)
  have hjoin : (ByteArray.mk l.toArray) ++ (ByteArray.mk [UInt8.ofNat ((sum l).toNat / 256), UInt8.ofNat (sum l).toNat].toArray) = ByteArray.mk (sld l).toArray := by
    apply ByteArray.ext
    simp [sld, hiB, loB]
  generalize (sum l).toNat = v at *
  have hcv : (convert 32 9 (.slice (some ⟨x1.heap.size, 0, none⟩) 2 2)).run Tryd.prog (x1.alloc (.cells #[.int .u8 ((v : Int) / 256), .int .u8 ((v : Int) % 256)] 5)) = .ok (.string ⟨[UInt8.ofNat (v / 256), UInt8.ofNat v].toArray⟩) (x1.alloc (.cells #[.int .u8 ((v : Int) / 256), .int .u8 ((v : Int) % 256)] 5)) := by
    refine convert_holds (g := x1.heap.size) (l := [UInt8.ofNat (v / 256), UInt8.ofNat v]) ?_ rfl
    rw [HB.out]
    exact Holds.of_row (fz := (0, 0)) (heap_alloc_new x1 _)
  have hb2 : Below w.heap.size w (x1.alloc (.cells #[.int .u8 ((v : Int) / 256), .int .u8 ((v : Int) % 256)] 5)) := hb1.alloc hb1.size _
  have HB2 := Lib.hid hb2
  clear hb2
  generalize hp : [UInt8.ofNat (v / 256), UInt8.ofNat v] = p at *
  have hpl : p.length = 2 := by rw [← hp]; rfl
  have hsum : ¬ 9223372036854775807 < l.length + p.length := by omega
  clear hp HB hb1
  go_wp2
  go_ret
  exact ⟨rfl, HB2.out⟩

end Go.Proofs.YtalolefggihloaaDoor
