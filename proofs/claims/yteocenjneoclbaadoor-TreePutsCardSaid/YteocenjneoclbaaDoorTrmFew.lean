/- Layer 4: the laws' short and few. -/
import Derived.Lib.Strings
import Derived.Test.YteocenjneoclbaaDoorTrmCnt
import Derived.Test.YteocenjneoclbaaDoorTrmMade
namespace Go.Proofs.YteocenjneoclbaaDoor.tre
open Go.RowKit Go.Shelf

def cut12 (s : ByteArray) : ByteArray := if 12 < s.size then s.extract 0 12 else s
theorem cut12_size (s : ByteArray) : (cut12 s).size ≤ 12 := by
  unfold cut12
  split
  · rw [ByteArray.size_extract]; omega
  · omega
theorem short_any (s : ByteArray) (hs : s.size ≤ maxLen) (w : World) : Calls Tryd.prog 20 #[.string s] w fun e w' => e = .returned (.string (cut12 s)) ∧ w = w' := by
  unfold maxLen at hs
  by_cases h : 12 < s.size
  · have H := Lib.hid (show cut12 s = s.extract 0 12 from if_pos h)
    have hz : (12 : Int) < (s.size : Int) := by omega
    go_enter Tryd.func20, Tryd.ntmps20
    go_wp2
    go_ret
    rw [H.out]
    exact ⟨rfl, rfl⟩
  · have H := Lib.hid (show cut12 s = s from if_neg h)
    have hz : ¬ (12 : Int) < (s.size : Int) := by omega
    go_enter Tryd.func20, Tryd.ntmps20
    go_wp2
    go_ret
    rw [H.out]
    exact ⟨rfl, rfl⟩

def fewI (x : It) : It := { x with key := cut12 x.key, text := cut12 x.text }
def fewV (l : List It) : List It := (l.take 40).map fewI
/-- Items that came in: they lie at any place. -/
def ItIn (w : World) (bl off : Nat) (l : List It) : Prop := ∀ i (h : i < l.length), ∀ j u, (cellsI l[i])[j]? = some u → w.cell? ⟨bl, off + i * 5 + j, none⟩ = some u
theorem own_items {w : World} {B g n c : Nat} {l : List It} (h : w.ownsRow B 55 5 (.slice (some ⟨g, 0, none⟩) n c) n (flatI l)) : ItAt w g 0 l := by
  intro i hi j u hu
  have hj : j < 5 := by have := (List.getElem?_eq_some_iff.1 hu).1; exact this
  have h2 := h.cells (g := g) rfl (i * 5 + j) u (by
    rw [← hu]
    unfold flatI
    exact flatten_at (l.map cellsI) 5 (fun xs hx => by obtain ⟨x, _, rfl⟩ := List.mem_map.1 hx; rfl) i (cellsI l[i]) (by rw [List.getElem?_map, List.getElem?_eq_getElem hi]; rfl) j hj)
  rw [Addr.add_lit, Nat.zero_add] at h2
  simpa using h2
theorem few_len (l : List It) (i : Nat) (h : i < l.length) : (l.take (i + 1)).map fewI = (l.take i).map fewI ++ [fewI l[i]] := by
  rw [List.take_succ_eq_append_getElem h, List.map_append]; rfl
end Go.Proofs.YteocenjneoclbaaDoor.tre
