/- Layer 3: the walk of NamesBytes. -/
import Derived.Test.YthflpgeonllgdaaDoorNamLaws
namespace Go.Proofs.YthflpgeonllgdaaDoor.nam
open Go.RowKit Go.Shelf

def one (b : Nat) : List UInt8 := [UInt8.ofNat b]
theorem one_lab : ∀ b : Fin 256, labB (one b) = edgeL b := by decide +kernel
theorem one_sub : ∀ b : Fin 256, subB (one b) = edgeL b := by decide +kernel
theorem one_val : ∀ b : Fin 256, valB (one b) = edgeV b := by decide +kernel
theorem one_key : ∀ b : Fin 256, keyB (one b) = edgeV b := by decide +kernel
theorem one_verb : ∀ b : Fin 256, verbB (one b) = smallB b := by decide +kernel
theorem one_seg : ∀ b : Fin 256, segB (one b) = (seenB b && !decide (b.val = 47 ∨ b.val = 37 ∨ b.val = 46)) := by decide +kernel
theorem one_path : ∀ b : Fin 256, pathB (one b) = decide (b.val = 47) := by decide +kernel
theorem strOf_one (b : Nat) : (strOfNums [(b : Int)]).data.toList = one b := by
  unfold strOfNums one; simp
theorem one_size (b : Nat) : (strOfNums [(b : Int)]).size = 1 := by rw [strOfNums_size]; rfl
theorem conv_one (w1 : World) (a : Int) : (convert 55 9 (.slice (some ⟨w1.heap.size, 0, none⟩) 1 1)).run Tryd.prog (w1.alloc (.cells #[.int .u8 a] 5)) = .ok (.string (strOfNums [a])) (w1.alloc (.cells #[.int .u8 a] 5)) :=
  run_convert_bytes_arg (P := Tryd.prog) _ 55 5 Tryd.underlying55 Tryd.underlying5 w1.heap.size 0 1 1 [a] rfl (fun i hi => by
    obtain rfl : i = 0 := by omega
    exact cell_of_row _ w1.heap.size 0 #[.int .u8 a] 5 (0, 0) (heap_alloc_new w1 _)) 9 Tryd.underlying9
end Go.Proofs.YthflpgeonllgdaaDoor.nam
