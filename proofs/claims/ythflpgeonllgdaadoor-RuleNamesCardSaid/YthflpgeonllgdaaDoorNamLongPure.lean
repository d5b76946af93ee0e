/- Layer 3: plain mathematics of NamesLong: texts of one letter, parts of fifty; rows and numbers of its walk. -/
import Derived.Test.YthflpgeonllgdaaDoorNamWithin
import Derived.Laws.MakeOwn
import Derived.Laws.OwnMore
namespace Go.Proofs.YthflpgeonllgdaaDoor.nam
open Go.RowKit Go.Shelf

/-- A text of letters a. -/
def As (k : Nat) : List UInt8 := List.replicate k 97
theorem As_edge (k : Nat) : ∀ b ∈ As k, b = 97 := fun _ hb => List.eq_of_mem_replicate hb
theorem As_lab (k : Nat) : labB (As k) = (decide (1 ≤ k) && decide (k ≤ 63)) := by
  unfold labB
  rw [madeB_all fun b hb => by rw [As_edge k b hb]; decide, Bool.and_true]
  unfold As; rw [List.length_replicate]
theorem As_val (k : Nat) : valB (As k) = decide (k ≤ 63) := by
  unfold valB
  rw [madeB_all fun b hb => by rw [As_edge k b hb]; decide, Bool.and_true]
  unfold As; rw [List.length_replicate, decide_eq_true (Nat.zero_le k), Bool.true_and]
theorem As_seg (k : Nat) : segB (As k) = (decide (1 ≤ k) && decide (k ≤ 253)) := by
  have h1 : (As k == [46]) = false := beq_eq_false_iff_ne.2 fun e => by have := As_edge k 46 (by rw [e]; simp); revert this; decide
  have h2 : (As k == [46, 46]) = false := beq_eq_false_iff_ne.2 fun e => by have := As_edge k 46 (by rw [e]; simp); revert this; decide
  unfold segB
  rw [madeB_all fun b hb => by rw [As_edge k b hb]; decide, h1, h2]
  unfold As; rw [List.length_replicate]; simp
theorem As_verb (k : Nat) : verbB (As k) = (decide (1 ≤ k) && decide (k ≤ 32)) := by
  unfold verbB
  rw [madeB_all fun b hb => by rw [As_edge k b hb]; decide, Bool.and_true]
  unfold As; rw [List.length_replicate]
theorem As_path (k : Nat) : pathB (47 :: As k) = decide (k ≤ 511) := by
  rw [Bool.eq_iff_iff, pathB_iff, decide_eq_true_iff]
  have hs : ∀ b ∈ 47 :: As k, seenB b.toNat = true := fun b hb => by
    rcases List.mem_cons.1 hb with rfl | hb
    · decide
    · rw [As_edge k b hb]; decide
  have hl : (47 :: As k).length = k + 1 := by unfold As; rw [List.length_cons, List.length_replicate]
  rw [hl]
  exact ⟨fun h => by omega, fun h => ⟨by omega, rfl, hs⟩⟩
def fifty : List UInt8 := [97, 97, 97, 97, 97, 98, 98, 98, 98, 98, 99, 99, 99, 99, 99, 100, 100, 100, 100, 100, 101, 101, 101, 101, 101, 97, 97, 97, 97, 97, 98, 98, 98, 98, 98, 99, 99, 99, 99, 99, 100, 100, 100, 100, 100, 101, 101, 101, 101, 101]
def pp : Nat → List UInt8
  | 0 => []
  | i + 1 => (if 0 < i then pp i ++ [46] else pp i) ++ fifty
theorem pp_sub : ∀ m : Fin 8, subB (pp m) = (decide (0 < m.val) && decide (m.val < 5)) := by decide +kernel
theorem pp_key : ∀ m : Fin 8, keyB (pp m ++ [47, 97]) = (decide (0 < m.val) && decide (m.val < 5)) := by decide +kernel
theorem pp_len : ∀ m : Fin 8, (pp m).length ≤ 400 := by decide +kernel
theorem pp_sub' (j : Nat) (h : j < 8) : subB (pp j) = (decide (0 < j) && decide (j < 5)) := pp_sub ⟨j, h⟩
theorem pp_key' (j : Nat) (h : j < 8) : keyB (pp j ++ [47, 97]) = (decide (0 < j) && decide (j < 5)) := pp_key ⟨j, h⟩
theorem pp_len' (j : Nat) (h : j < 8) : (pp j).length ≤ 400 := pp_len ⟨j, h⟩
theorem cat_val (a b : List UInt8) : Value.string ((⟨a.toArray⟩ : ByteArray) ++ ⟨b.toArray⟩) = .string ⟨(a ++ b).toArray⟩ := by
  congr 1
theorem strOf_As (k : Nat) : strOfNums (List.replicate k 97) = ⟨(As k).toArray⟩ := by
  apply ByteArray.ext
  unfold strOfNums As
  simp
theorem wr_mod (n q : Int) (h0 : 0 < q) (hq : q ≤ 1000) : ∃ k : Nat, (wrap64 (n.tmod q + q)).tmod q = k ∧ (k : Int) < q := by
  have a := Int.lt_tmod_of_pos n h0
  have b := Int.tmod_lt_of_pos n h0
  have hw : wrap64 (n.tmod q + q) = n.tmod q + q := IntWalk.wrap64_in _ (by omega)
  have c := Int.tmod_lt_of_pos (n.tmod q + q) h0
  have d := Int.tmod_nonneg (a := n.tmod q + q) q (by omega)
  rw [hw]
  exact ⟨((n.tmod q + q).tmod q).toNat, by omega, by omega⟩
theorem conv_own {w : World} {base g n cap : Nat} {xs : List Int} (h : w.ownsRow base 5 1 (.slice (some ⟨g, 0, none⟩) n cap) n (u8s xs)) : (convert 55 9 (.slice (some ⟨g, 0, none⟩) n cap)).run Tryd.prog w = .ok (.string (strOfNums xs)) w := by
  have hl : xs.length = n := by have := h.1; unfold u8s at this; rw [List.length_map, Nat.mul_one] at this; exact this
  refine run_convert_bytes_arg (P := Tryd.prog) _ 55 5 Tryd.underlying55 Tryd.underlying5 g 0 n cap xs hl (fun i hi => ?_) 9 Tryd.underlying9
  rw [Nat.zero_add, h.cellAt i (by omega)]
  unfold u8s
  rw [List.getElem?_map, List.getElem?_eq_getElem (by omega), List.getD_eq_getElem?_getD, List.getElem?_eq_getElem (by omega)]
  rfl
def fillA (i k : Nat) : List Int := List.replicate i 97 ++ List.replicate (k - i) 0
theorem fill_set (i k : Nat) (h : i < k) : (u8s (fillA i k)).set i (.int .u8 97) = u8s (fillA (i + 1) k) := by
  unfold u8s fillA
  obtain ⟨j, rfl⟩ : ∃ j, k = i + (j + 1) := ⟨k - i - 1, by omega⟩
  rw [show i + (j + 1) - i = j + 1 by omega, show i + (j + 1) - (i + 1) = j by omega, List.map_append, List.map_append, List.set_append_right _ _ (by simp), List.length_map, List.length_replicate, Nat.sub_self, List.replicate_succ, List.map_cons, List.set_cons_zero, List.replicate_succ', List.map_append, List.append_assoc]
  rfl
theorem fill_len (i k : Nat) (h : i ≤ k) : (u8s (fillA i k)).length = k := by unfold u8s fillA; simp; omega

end Go.Proofs.YthflpgeonllgdaaDoor.nam
