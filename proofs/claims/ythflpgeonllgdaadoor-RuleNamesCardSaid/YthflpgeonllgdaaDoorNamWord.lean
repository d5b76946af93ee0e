/- Layer 3: the laws' word. -/
import Derived.Test.YthflpgeonllgdaaDoorNamLongPure
import Derived.Test.YthflpgeonllgdaaDoorNamBytes
import Derived.Test.YthflpgeonllgdaaDoorNamPure3
import Derived.Laws.BitsAllLaws
namespace Go.Proofs.YthflpgeonllgdaaDoor.nam
open Go.RowKit Go.Shelf

def WordPost (w : World) (e : Ending) (w' : World) : Prop := ∃ x : List UInt8, plain x ∧ e = .returned (.string ⟨x.toArray⟩) ∧ Below w.heap.size w w'
theorem low12 (n : Int) : ∃ K : Nat, bits .and .i64 n 4095 = (K : Int) ∧ K ≤ 4095 := by
  have h : (BitVec.ofInt 64 n &&& BitVec.ofInt 64 4095).toNat ≤ 4095 := by
    rw [BitVec.toNat_and]
    exact Nat.le_trans Nat.and_le_right (by decide)
  refine ⟨(BitVec.ofInt 64 n &&& BitVec.ofInt 64 4095).toNat, ?_, h⟩
  show IntKind.i64.wrap ((BitVec.ofInt 64 n &&& BitVec.ofInt 64 4095).toNat : Int) = _
  rw [IntKind.wrap_i64]; omega
theorem strOf_let (K : Nat) : strOfNums [97 + (K : Int) % 8] = ⟨[let8 K].toArray⟩ := by
  apply ByteArray.ext
  unfold strOfNums
  show (List.map _ _).toArray = _
  rw [List.map_cons, List.map_nil]
  congr 2
end Go.Proofs.YthflpgeonllgdaaDoor.nam
