/- Layer 3: the walk of NamesWithin. -/
import Derived.Test.YthflpgeonllgdaaDoorNamLaws
import Derived.Test.YthflpgeonllgdaaDoorNamPure2
import Derived.Lib.SmallJoins
namespace Go.Proofs.YthflpgeonllgdaaDoor.nam
open Go.RowKit Go.Shelf

theorem key_of_val {l : List UInt8} (h0 : l ≠ []) (h : valB l = true) : keyB l = true ∧ (spl 47 l).length = 1 := by
  rw [val_key h0, Bool.and_eq_true_iff] at h
  exact ⟨h.1, of_decide_eq_true h.2⟩
theorem n_of_key {l : List UInt8} (h0 : l ≠ []) (h : valB l = false) (hk : keyB l = true) : (spl 47 l).length ≠ 1 := by
  rw [val_key h0, hk, Bool.true_and] at h
  exact of_decide_eq_false h
theorem no_verb {l : List UInt8} (h : labB l = false) : verbB l = false := by
  cases e : verbB l
  · rfl
  · rw [verb_lab e] at h; cases h
theorem no_val {l : List UInt8} (h : 63 < l.length) : valB l = false := by
  cases e : valB l
  · rfl
  · have := (valB_iff2.1 e).1; omega
theorem sub_ne {l : List UInt8} (h : subB l = true) : l ≠ [] := by
  rintro rfl
  exact absurd h (by decide +kernel)
theorem slash_data (t : ByteArray) : ((⟨#[47]⟩ : ByteArray) ++ t).data.toList = 47 :: t.data.toList := by rw [ByteArray.data_append, Array.toList_append]; rfl
theorem slash_size (t : ByteArray) : ((⟨#[47]⟩ : ByteArray) ++ t).size = t.size + 1 := by rw [ByteArray.size_append]; show 1 + t.size = _; omega
end Go.Proofs.YthflpgeonllgdaaDoor.nam
