/- Layer 8: rule's Path tells what the document's tells. -/
import Derived.Test.YthflpgeonllgdaaDoorRulPth
namespace Go.Proofs.YthflpgeonllgdaaDoor.rul
open Go.RowKit Go.Proofs.YthflpgeonllgdaaDoor.rep Go.Proofs.YthflpgeonllgdaaDoor.lab

theorem take_last {s : ByteArray} : (s.extract 0 (s.size - 1)).data.toList = s.data.toList.take (s.size - 1) := by
  rw [Lib.extract_data]; simp
theorem tail_eq (p s : ByteArray) : tailAt p s = beginsB p s := by
  unfold tailAt beginsB trimL
  rw [suffix_last]
  have hl : s.data.toList.length = s.size := Array.length_toList
  by_cases h0 : 0 < s.size
  · rw [dif_pos h0]
    have hg : s.data.toList.getLast? = some s[s.size - 1] := by
      rw [List.getLast?_eq_getElem?, hl, List.getElem?_eq_getElem (by omega)]
      rfl
    rw [hg, show ((some s[s.size - 1] : Option UInt8) == some 42) = ((s[s.size - 1].toNat : Int) == 42) from by
      rw [Bool.eq_iff_iff, beq_iff_eq, beq_iff_eq, Option.some.injEq, ← UInt8.toNat_inj]
      exact ⟨fun h => by rw [h]; rfl, fun h => by have h2 : s[s.size - 1].toNat = 42 := by omega
                                                  exact h2⟩]
    cases ((s[s.size - 1].toNat : Int) == 42) with
    | false => rfl
    | true =>
      rw [if_pos rfl, Bool.true_and, Bool.true_and, hl]
      unfold Lib.hasPrefix
      rw [Bool.eq_iff_iff, Bool.and_eq_true, beq_iff_eq, decide_eq_true_eq, List.isPrefixOf_iff_prefix, List.prefix_iff_eq_take, ByteArray.toList_eq, ByteArray.toList_eq, take_last]
      have hp : p.data.toList.length = p.size := Array.length_toList
      have hx : (p.extract 0 (s.size - 1)).data.toList = p.data.toList.take (s.size - 1) := by simp
      rw [hx]
      have ht : (s.data.toList.take (s.size - 1)).length = s.size - 1 := by rw [List.length_take]; omega
      rw [ht]
      constructor
      · rintro ⟨_, h⟩; exact h.symm
      · intro h
        refine ⟨?_, h.symm⟩
        have := congrArg List.length h
        rw [ht, List.length_take] at this
        omega
  · rw [dif_neg h0]
    have he : s.data.toList = [] := List.length_eq_zero_iff.1 (by omega)
    rw [he]; rfl
theorem path_at (p s : ByteArray) : pathAt p s = (isT s p || beginsB p s) := by
  unfold pathAt
  rw [tail_eq]
  cases h1 : (s.toList == [42])
  · rfl
  · have : beginsB p s = true := by
      have hs : s.data.toList = [42] := by rw [← ByteArray.toList_eq]; exact beq_iff_eq.1 h1
      unfold beginsB trimL
      rw [hs]; simp [Lib.hasSuffix, Lib.hasPrefix, List.isSuffixOf, List.isPrefixOf]
    rw [this]; simp
theorem path_all (p : ByteArray) (l : List ByteArray) : (among l p || l.any (beginsB p)) = l.any (pathAt p) := by
  rw [show pathAt p = fun s => isT s p || beginsB p s from funext (path_at p), any_or]
  rfl
theorem Path_any (B : Nat) (hB : B ≤ 140737488355328) (a : Option Addr) (c : Nat) (l : List ByteArray) (hl : l.length ≤ 140737488355328) (p : ByteArray) (w : World) (hr : RowIn (text B) w a l) :
    Calls Tryd.prog 20 #[.slice a l.length c, .string p] w fun e w' => e = .returned (.bool (l.any (pathAt p))) ∧ Below w.heap.size w w' := by
  rw [← path_all]
  exact Path_any' B hB a c l hl p w hr
end Go.Proofs.YthflpgeonllgdaaDoor.rul
