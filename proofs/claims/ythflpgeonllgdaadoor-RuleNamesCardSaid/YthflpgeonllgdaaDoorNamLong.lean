/- Layer 3: the laws' long: some text of at most 1000 bytes. -/
import Derived.Test.YthflpgeonllgdaaDoorNamRow
import Derived.Deep.DeepCutAuto
namespace Go.Proofs.YthflpgeonllgdaaDoor.nam
open Go.RowKit Go.Shelf

theorem info_u8 : (Tryd.prog.info? 5).map (fun i => (i.zero, i.size, i.bytes)) = some (some (.int .u8 0), 1, 1) := by kernel_rfl
def LongPost (w : World) (e : Ending) (w' : World) : Prop := ∃ t : ByteArray, t.size ≤ 1000 ∧ e = .returned (.string t) ∧ Below w.heap.size w w'
theorem strOfNums_size (xs : List Int) : (strOfNums xs).size = xs.length := by unfold strOfNums; simp [ByteArray.size]
theorem conv_out {w : World} {base g n cap : Nat} {xs : List Int} (h : RowF w base 5 g n cap (u8s xs)) : (convert 55 9 (.slice (some ⟨g, 0, none⟩) n cap)).run Tryd.prog w = .ok (.string (strOfNums xs)) w := by
  have hl : xs.length = n := by have := h.len; unfold u8s at this; rw [List.length_map] at this; exact this
  refine run_convert_bytes_arg (P := Tryd.prog) _ 55 5 Tryd.underlying55 Tryd.underlying5 g 0 n cap xs hl (fun i hi => ?_) 9 Tryd.underlying9
  rw [Nat.zero_add, h.cell i hi]
  unfold u8s
  rw [List.getElem?_map, List.getElem?_eq_getElem (by omega), List.getD_eq_getElem?_getD, List.getElem?_eq_getElem (by omega)]
  rfl

end Go.Proofs.YthflpgeonllgdaaDoor.nam
