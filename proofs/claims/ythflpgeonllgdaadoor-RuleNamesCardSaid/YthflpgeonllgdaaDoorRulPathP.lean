/- Layer 8: plain mathematics of paths by words. -/
import Derived.Test.YthflpgeonllgdaaDoorRulPartP
import Derived.Test.YthflpgeonllgdaaDoorRulPth2
import Derived.Test.YthflpgeonllgdaaDoorRulChk
namespace Go.Proofs.YthflpgeonllgdaaDoor.rul
open Go.RowKit Go.Proofs.YthflpgeonllgdaaDoor.rep Go.Proofs.YthflpgeonllgdaaDoor.lab

/-- A path by words: a slash, and small letters. -/
def PathW (k : Nat) (s : ByteArray) : Prop := ∃ l : List UInt8, s.data.toList = 47 :: l ∧ (∀ b ∈ l, nam.smallB b.toNat = true) ∧ l.length ≤ 3 * k
theorem pathW_first : PathW 0 ⟨#[47]⟩ := ⟨[], rfl, by simp, by simp⟩
theorem pathW_next {k : Nat} {s x : ByteArray} (h : PathW k s) (hx : wordT x) : PathW (k + 1) (s ++ x) := by
  obtain ⟨l, h1, h2, h3⟩ := h
  refine ⟨l ++ x.data.toList, by simp [h1], fun b hb => ?_, by have := hx.2.1; rw [List.length_append]; omega⟩
  rcases List.mem_append.1 hb with hb | hb
  · exact h2 b hb
  · exact hx.2.2 b hb
theorem pathW_size {k : Nat} {s : ByteArray} (h : PathW k s) : 1 ≤ s.size ∧ s.size ≤ 3 * k + 1 := by
  obtain ⟨l, h1, _, h3⟩ := h
  have hl : s.data.toList.length = s.size := Array.length_toList
  rw [h1, List.length_cons] at hl
  omega
theorem pathW_no {k : Nat} {s : ByteArray} (h : PathW k s) : (42 : UInt8) ∉ s.data.toList := by
  obtain ⟨l, h1, h2, _⟩ := h
  rw [h1]
  intro e
  rcases List.mem_cons.1 e with e | e
  · cases e
  · have := h2 42 e; revert this; decide
def pT : ByteArray := ⟨#[42]⟩
theorem app_data (s : ByteArray) : (s ++ pT).data.toList = s.data.toList ++ [42] := by simp [pT]
theorem starIn_not {l : List UInt8} (h : (42 : UInt8) ∉ l) : starIn l = false := by
  unfold starIn
  rw [List.any_eq_false]
  intro x hx e
  have : x = 42 := by simpa using e
  exact h (this ▸ hx)
theorem suf_no {s : ByteArray} (h : (42 : UInt8) ∉ s.data.toList) : Lib.hasSuffix s.data.toList [42] = false := by
  rw [suffix_last, beq_eq_false_iff_ne]
  intro e
  exact h (List.mem_of_getLast? e)
theorem suf_yes (s : ByteArray) : Lib.hasSuffix (s ++ pT).data.toList [42] = true := by
  rw [suffix_last, app_data]; simp
theorem trim_no {s : ByteArray} (h : (42 : UInt8) ∉ s.data.toList) : trimL s.data.toList = s.data.toList := by
  unfold trimL; rw [suf_no h]; rfl
theorem trim_yes (s : ByteArray) : trimL (s ++ pT).data.toList = s.data.toList := by
  unfold trimL; rw [suf_yes, app_data]; simp
theorem pathOf {k : Nat} {s : ByteArray} (h : PathW k s) (hk : k ≤ 4) : nam.pathB s.data.toList = true := by
  obtain ⟨l, h1, h2, h3⟩ := h
  rw [h1]
  refine nam.pathB_iff.2 ⟨by simp; omega, rfl, fun b hb => ?_⟩
  rcases List.mem_cons.1 hb with rfl | hb
  · decide
  · have := h2 b hb
    unfold nam.smallB at this; unfold nam.seenB; simp at this ⊢; omega
theorem pathOf_star {k : Nat} {s : ByteArray} (h : PathW k s) (hk : k ≤ 4) : nam.pathB (s ++ pT).data.toList = true := by
  obtain ⟨l, h1, h2, h3⟩ := h
  rw [app_data, h1]
  refine nam.pathB_iff.2 ⟨by simp; omega, rfl, fun b hb => ?_⟩
  rcases List.mem_append.1 hb with hb | hb
  · rcases List.mem_cons.1 hb with rfl | hb
    · decide
    · have := h2 b hb
      unfold nam.smallB at this; unfold nam.seenB; simp at this ⊢; omega
  · rw [List.mem_singleton.1 hb]; decide
theorem pathE_no {k : Nat} {s : ByteArray} (h : PathW k s) (hk : k ≤ 4) : pathE s.data.toList = true := by
  unfold pathE
  rw [pathOf h hk, trim_no (pathW_no h), starIn_not (pathW_no h)]; simp
theorem pathE_yes {k : Nat} {s : ByteArray} (h : PathW k s) (hk : k ≤ 4) : pathE (s ++ pT).data.toList = true := by
  unfold pathE
  rw [pathOf_star h hk, trim_yes, starIn_not (pathW_no h)]; simp
theorem at_no {j k : Nat} {s y : ByteArray} (h : PathW k s) (_hy : PathW j y) : pathAt y s = (s.toList == y.toList) := by
  unfold pathAt
  have h1 : (s.toList == [42]) = false := by
    rw [beq_eq_false_iff_ne, ByteArray.toList_eq]
    intro e
    exact pathW_no h (by rw [e]; simp)
  rw [tail_eq, h1, show beginsB y s = false by unfold beginsB; rw [suf_no (pathW_no h)]; rfl]; simp
theorem at_yes {j k : Nat} {s y : ByteArray} (h : PathW k s) (hy : PathW j y) : pathAt y (s ++ pT) = (decide (s.size ≤ y.size) && ((y.extract 0 s.size).toList == s.toList)) := by
  unfold pathAt
  have h1 : ((s ++ pT).toList == [42]) = false := by
    rw [beq_eq_false_iff_ne, ByteArray.toList_eq, app_data]
    obtain ⟨l, e1, _⟩ := h
    rw [e1]; simp
  have h2 : ((s ++ pT).toList == y.toList) = false := beqS_no.2 (ne_of_mem (c := 42) (by rw [app_data]; simp) (pathW_no hy))
  rw [h1, h2, tail_eq]
  unfold beginsB
  rw [suf_yes, trim_yes]
  have hl : s.data.toList.length = s.size := Array.length_toList
  have hly : y.data.toList.length = y.size := Array.length_toList
  unfold Lib.hasPrefix
  rw [Bool.eq_iff_iff]
  simp only [Bool.false_or, Bool.true_and]
  rw [Bool.and_eq_true, beq_iff_eq, decide_eq_true_eq, List.isPrefixOf_iff_prefix, List.prefix_iff_eq_take, ByteArray.toList_eq, ByteArray.toList_eq, show (y.extract 0 s.size).data.toList = y.data.toList.take s.size by simp, hl]
  constructor
  · intro e
    refine ⟨?_, e.symm⟩
    have := congrArg List.length e
    rw [hl, List.length_take] at this
    omega
  · rintro ⟨_, e⟩; exact e.symm
def getS : ByteArray := ⟨#[103, 101, 116]⟩
def listS : ByteArray := ⟨#[108, 105, 115, 116]⟩
def pathRu (s : ByteArray) : Ru := ⟨[getS], [], [], [], [s]⟩
def askP (v y : ByteArray) : Ak := ⟨v, ⟨#[]⟩, ⟨#[]⟩, ⟨#[]⟩, ⟨#[]⟩, ⟨#[]⟩, y⟩
theorem pathW_ne {k : Nat} {s : ByteArray} (h : PathW k s) : s.toList.isEmpty = false := by
  obtain ⟨l, e, _⟩ := h
  rw [ByteArray.toList_eq, e]; rfl
theorem get_get : eitherB [getS] getS = true := by decide +kernel
theorem get_list : eitherB [getS] listS = false := by decide +kernel
theorem verb_get : verbE getS.data.toList = true := by decide +kernel
theorem allow_get {j : Nat} {s y : ByteArray} (hy : PathW j y) : allowsB (pathRu s) (askP getS y) = pathAt y s := by
  unfold allowsB pathRu askP
  rw [pathW_ne hy, if_neg (by decide), get_get, List.any_cons, List.any_nil]; simp
theorem allow_list (s y : ByteArray) : allowsB (pathRu s) (askP listS y) = false := by
  unfold allowsB pathRu askP
  rw [get_list]; rfl
theorem check_path {s : ByteArray} (h : pathE s.data.toList = true) (paths : Bool) : checkB (pathRu s) paths = paths := by
  unfold checkB ofResB ofPathB filledB pathRu
  rw [List.all_cons, List.all_cons, verb_get, h]
  cases paths <;> rfl
end Go.Proofs.YthflpgeonllgdaaDoor.rul
