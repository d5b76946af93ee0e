/- Layer 8: plain mathematics of names by words. -/
import Derived.Test.YthflpgeonllgdaaDoorRulPathP
namespace Go.Proofs.YthflpgeonllgdaaDoor.rul
open Go.RowKit Go.Proofs.YthflpgeonllgdaaDoor.rep Go.Proofs.YthflpgeonllgdaaDoor.lab

def noS : ByteArray := ⟨#[]⟩
def podS : ByteArray := ⟨#[112, 111, 100, 115]⟩
def nameRu (l : List ByteArray) : Ru := ⟨[getS], [noS], [podS], l, []⟩
def askN (s : ByteArray) : Ak := ⟨getS, noS, podS, noS, s, noS, noS⟩
/-- A name: nothing, or a word. -/
def nameT (s : ByteArray) : Prop := s = noS ∨ wordT s
theorem word_seg {s : ByteArray} (h : wordT s) : nam.segB s.data.toList = true := by
  refine nam.segB_iff.2 ⟨⟨List.length_pos_iff.2 h.1, by have := h.2.1; omega⟩, fun b hb => ?_, fun e => ?_, fun e => ?_⟩
  · have := h.2.2 b hb
    unfold nam.smallB at this; unfold nam.seenB nam.partB; simp at this ⊢; omega
  · have := h.2.2 46 (by rw [e]; simp); revert this; decide
  · have := h.2.2 46 (by rw [e]; simp); revert this; decide
theorem among_no {l : List ByteArray} (h : ∀ x ∈ l, wordT x) : among l noS = false := by
  unfold among
  rw [List.any_eq_false]
  intro x hx e
  have h1 := word_ne (h x hx)
  rw [beqS_iff.1 e] at h1
  rw [ByteArray.toList_eq] at h1; cases h1
theorem names_allow {l : List ByteArray} {s : ByteArray} (h : ∀ x ∈ l, wordT x) (hs : nameT s) : allowsB (nameRu l) (askN s) = (decide (l.length = 0) || among l s) := by
  have e1 : eitherB [getS] getS = true := by decide +kernel
  have e2 : eitherB [noS] noS = true := by decide +kernel
  have e3 : resB [podS] podS noS = true := by decide +kernel
  have e4 : noS.toList.isEmpty = true := by rw [ByteArray.toList_eq]; rfl
  unfold allowsB nameRu askN namesB
  simp only [e1, e2, e3, e4, Bool.true_and, if_true]
  rcases hs with rfl | hw
  · rw [among_no h]; simp
  · rw [word_ne hw]; rfl
theorem names_check {l : List ByteArray} (h : ∀ x ∈ l, wordT x) (hl : l.length ≤ 5) : checkB (nameRu l) false = true := by
  have e1 : verbE getS.data.toList = true := by decide +kernel
  have e2 : groupE noS.data.toList = true := by decide +kernel
  have e3 : resE podS.data.toList = true := by decide +kernel
  have e4 : (l.all fun x => nam.segB x.data.toList) = true := by
    rw [List.all_eq_true]; intro x hx; exact word_seg (h x hx)
  have e5 : decide ((l.length : Int) ≤ 16) = true := decide_eq_true (by omega)
  unfold checkB ofResB filledB nameRu
  simp [e1, e2, e3, e4, e5]
theorem among_snoc2 (l : List ByteArray) (y s : ByteArray) : among (l ++ [y]) s = (among l s || (y.toList == s.toList)) := by
  unfold among
  rw [List.any_append, List.any_cons, List.any_nil, Bool.or_false]
theorem low7 (n : Int) : ∃ K : Nat, bits .and .i64 n 7 = (K : Int) := by
  refine ⟨(BitVec.ofInt 64 n &&& BitVec.ofInt 64 7).toNat, ?_⟩
  have h : (BitVec.ofInt 64 n &&& BitVec.ofInt 64 7).toNat ≤ 7 := by
    rw [BitVec.toNat_and]
    exact Nat.le_trans Nat.and_le_right (by decide)
  show IntKind.i64.wrap ((BitVec.ofInt 64 n &&& BitVec.ofInt 64 7).toNat : Int) = _
  rw [IntKind.wrap_i64]; omega
end Go.Proofs.YthflpgeonllgdaaDoor.rul
