/- Layer 1: the contract of Encode: a point's bytes. -/
import Derived.Laws.BytesArg
import Derived.Test.YteocenjneoclbaaDoorTrmULeaf
namespace Go.Proofs.YteocenjneoclbaaDoor.utf
open Go.RowKit

theorem below_of_alloc {w w1 : World} (h : Below w.heap.size w w1) (o : Obj) : Below w.heap.size w (w1.alloc o) := h.alloc h.size o
theorem conv_new (w1 : World) (xs : List Int) (n c : Nat) (hn : xs.length = n) : (convert 57 9 (.slice (some ⟨w1.heap.size, 0, none⟩) n c)).run Tryd.prog (w1.alloc (.cells (xs.map (Value.int .u8)).toArray 5)) = .ok (.string (strOfNums xs)) (w1.alloc (.cells (xs.map (Value.int .u8)).toArray 5)) :=
  run_convert_bytes_arg (P := Tryd.prog) _ 57 5 Tryd.underlying57 Tryd.underlying5 w1.heap.size 0 n c xs hn (fun i hi => by
    rw [cell_of_row _ w1.heap.size (0 + i) _ 5 (0, 0) (heap_alloc_new w1 _)]
    simp [List.getElem?_eq_getElem (show i < xs.length by omega), List.getD]) 9 Tryd.underlying9

theorem ret_strb {a b : ByteArray} {c : Bool} (h : a = b) : Ending.returned (.tuple #[.string a, .bool c]) = .returned (.tuple #[.string b, .bool c]) := by rw [h]

theorem andNot6 (x : Int) (h : 0 ≤ x) : bits .andNot .u8 (x % 256) 192 = x % 64 := by
  obtain ⟨n, rfl⟩ := Int.eq_ofNat_of_zero_le h
  have e := u8_andNot_nat (n % 256) 192 (by omega) (by omega)
  have f : n % 256 &&& (255 - 192) = n % 64 := by
    rw [show 255 - 192 = 63 from rfl, nat_mask6]; omega
  rw [f] at e
  have g : ((n : Int) % 256) = ((n % 256 : Nat) : Int) := by omega
  rw [g]
  refine Eq.trans e ?_
  omega
theorem or7 (x : Int) (h : 0 ≤ x) (h' : x < 64) : bits .or .u8 128 x = 128 + x := by
  obtain ⟨n, rfl⟩ := Int.eq_ofNat_of_zero_le h
  have e := u8_or_nat 128 n (by omega) (by omega)
  rw [nat_join 7 128 n (by omega) (by omega)] at e
  refine Eq.trans e ?_
  omega
theorem low7 (x : Int) (h : 0 ≤ x) : bits .or .u8 128 (bits .andNot .u8 (x % 256) 192) = 128 + x % 64 := by
  rw [andNot6 x h, or7 _ (by omega) (by omega)]
theorem orHead (k m : Nat) (x : Int) (h : 0 ≤ x) (hm : m % 2 ^ k = 0) (h' : x < (2 ^ k : Nat)) (hx : x < 256) (hmm : m < 256) : bits .or .u8 (m : Int) x = m + x := by
  obtain ⟨n, rfl⟩ := Int.eq_ofNat_of_zero_le h
  have e := u8_or_nat m n hmm (by omega)
  rw [nat_join k m n hm (by omega)] at e
  rw [e]
  omega
theorem nums_eq (xs : List Int) (l : List UInt8) (h : (xs.map fun n => UInt8.ofNat n.toNat) = l) : strOfNums xs = ⟨l.toArray⟩ := by
  rw [← h]; rfl

end Go.Proofs.YteocenjneoclbaaDoor.utf
