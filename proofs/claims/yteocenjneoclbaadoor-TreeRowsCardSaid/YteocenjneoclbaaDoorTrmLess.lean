/- Layer 4: the order of texts, as the walks spell it. Pure. -/
import Derived.Test.YteocenjneoclbaaDoorTrmSymG
namespace Go.Proofs.YteocenjneoclbaaDoor.tre
open Go.RowKit Go.Shelf

theorem less_cb : ∀ x y : List UInt8, Op.bytesLess x y = decide (Go.Lib.compareBytes x y < 0)
  | [], [] => rfl
  | [], _ :: _ => rfl
  | _ :: _, [] => rfl
  | a :: x, b :: y => by
    unfold Op.bytesLess Go.Lib.compareBytes
    rw [less_cb x y]
    by_cases h1 : a < b
    · simp [h1]
    · by_cases h2 : b < a
      · have h3 : ¬ a = b := fun e => by subst e; exact UInt8.lt_irrefl a h2
        simp [h1, h2, h3]
      · have h3 : a = b := by
          rw [UInt8.lt_iff_toNat_lt] at h1 h2
          exact UInt8.toNat_inj.1 (by omega)
        simp [h3]
theorem less_lt (x y : ByteArray) : Op.bytesLess x.toList y.toList = true ↔ ltB x y := by
  rw [ByteArray.toList_eq, ByteArray.toList_eq, less_cb]
  unfold ltB cmpB
  simp
theorem toList_inj {x y : ByteArray} (h : x.toList = y.toList) : x = y := by
  rw [ByteArray.toList_eq, ByteArray.toList_eq] at h
  exact ByteArray.ext (Array.toList_inj.1 h)
end Go.Proofs.YteocenjneoclbaaDoor.tre
