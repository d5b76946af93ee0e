/- Layer 3: the laws' awake: the chapter's examples hold. -/
import Derived.Test.YthflpgeonllgdaaDoorNamLong
namespace Go.Proofs.YthflpgeonllgdaaDoor.nam
open Go.RowKit Go.Shelf

theorem ex1 : subB (⟨#[97, 46, 98, 45, 99]⟩ : ByteArray).data.toList = true := by decide +kernel
theorem ex2 : subB (⟨#[97, 46, 46, 98]⟩ : ByteArray).data.toList = false := by decide +kernel
theorem ex3 : keyB (⟨#[97, 46, 98, 47, 99, 95, 100]⟩ : ByteArray).data.toList = true := by decide +kernel
theorem ex4 : verbB (⟨#[103, 101, 116]⟩ : ByteArray).data.toList = true := by decide +kernel
theorem ex5 : pathB (⟨#[47, 104, 101, 97, 108, 116, 104, 122]⟩ : ByteArray).data.toList = true := by decide +kernel
theorem ex6 : segB (⟨#[97, 58, 98]⟩ : ByteArray).data.toList = true := by decide +kernel
theorem ex7 : labB (⟨#[97]⟩ : ByteArray).data.toList = true := by decide +kernel
theorem chain {a b c : World} (h : Below a.heap.size a b) (k : Below b.heap.size b c) : Below a.heap.size a c := h.trans (k.mono h.size)
end Go.Proofs.YthflpgeonllgdaaDoor.nam
