/- Layer 4: what Put tells, where keys are distinct, is the document's; values that may be copied. Pure. -/
import Derived.Test.YteocenjneoclbaaDoorTrmDel
import Derived.Test.YteocenjneoclbaaDoorTrmPut
import Derived.Test.YteocenjneoclbaaDoorTrmRDrop
import Derived.Test.YteocenjneoclbaaDoorTrmRGet
namespace Go.Proofs.YteocenjneoclbaaDoor.tre
open Go.RowKit Go.Shelf

theorem small_of_ok : ∀ v : V, okC v → smallC v = true := V.ind fun v ihl ihf => by
  intro h
  obtain ⟨h1, h2, _, h4, h5⟩ := (okC_eq v).1 h
  exact (smallC_eq v).2 ⟨h1, h2, fun x hx => ihl x hx (h4 x hx), fun g hg => ihf g hg (h5 g hg)⟩
theorem place_cases (v : V) (key : ByteArray) (h5 : v.kind = 5) : (placeV v key = -1 ∧ ∀ g ∈ v.fields, (g.1.toList == key.toList) = false) ∨ ∃ k, ∃ h : k < v.fields.length, placeV v key = (k : Int) ∧ (v.fields[k].1.toList == key.toList) = true := by
  unfold placeV
  rw [if_pos h5]
  rcases idx_first key v.fields () 0 with h | ⟨k, hk, h1, h2, _⟩
  · exact .inl h
  · exact .inr ⟨k, hk, by rw [h1]; congr 1; omega, h2⟩
theorem put_put {v : V} {key : ByteArray} {x u : V} (hn : (v.fields.map (·.1)).Nodup) (h : PutIs v key x u) : u = putV v key x := by
  rcases h with ⟨hk, rfl⟩ | ⟨hk, hp, rfl⟩ | ⟨hk, k, hkl, hp, rfl⟩
  · exact (if_neg hk).symm
  · have hall : ∀ g ∈ v.fields, (g.1.toList == key.toList) = false := by
      rcases place_cases v key hk with ⟨_, h⟩ | ⟨k, _, h, _⟩
      · exact h
      · rw [hp] at h; omega
    unfold putV putL
    rw [if_pos hk, if_neg (by rw [List.any_eq_true]; rintro ⟨g, hg, h⟩; rw [hall g hg] at h; cases h)]
    congr 2
    conv => lhs; rw [← List.map_id v.fields]
    exact List.map_congr_left (fun g hg => by unfold putF; rw [if_neg (by rw [hall g hg]; decide)]; rfl)
  · have hm : (v.fields[k].1.toList == key.toList) = true := by
      rcases place_cases v key hk with ⟨h, _⟩ | ⟨k', hk', h, hm⟩
      · rw [hp] at h; omega
      · rw [hp] at h
        obtain rfl : k = k' := by omega
        exact hm
    unfold putV putL
    rw [if_pos hk, if_pos (List.any_eq_true.2 ⟨v.fields[k], List.getElem_mem hkl, hm⟩)]
    congr 1
    apply List.ext_getElem (by simp)
    intro i h1 h2
    rw [List.length_set] at h1
    rw [List.getElem_map, List.getElem_set]
    unfold putF
    split
    · rename_i e
      subst e
      rw [if_pos hm]
    · rename_i e
      rw [if_neg]
      intro hi
      have e1 := text_eq.1 (beq_iff_eq.1 hm)
      have e2 := text_eq.1 (beq_iff_eq.1 hi)
      have hp := List.pairwise_iff_getElem.1 hn
      rcases Nat.lt_or_gt_of_ne e with h | h
      · exact hp k i (by rw [List.length_map]; omega) (by rw [List.length_map]; omega) h (by rw [List.getElem_map, List.getElem_map, e1, e2])
      · exact hp i k (by rw [List.length_map]; omega) (by rw [List.length_map]; omega) h (by rw [List.getElem_map, List.getElem_map, e1, e2])
end Go.Proofs.YteocenjneoclbaaDoor.tre
