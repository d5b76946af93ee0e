/- Layer 8: plain mathematics: a rule with more. -/
import Derived.Test.YthflpgeonllgdaaDoorRulAwake
namespace Go.Proofs.YthflpgeonllgdaaDoor.rul
open Go.RowKit Go.Proofs.YthflpgeonllgdaaDoor.rep Go.Proofs.YthflpgeonllgdaaDoor.lab

theorem am_cons (m v : ByteArray) (l : List ByteArray) : among (m :: l) v = ((m.toList == v.toList) || among l v) := by unfold among; rw [List.any_cons]
theorem ei_more {m v : ByteArray} {l : List ByteArray} (h : eitherB l v = true) : eitherB (m :: l) v = true := by
  unfold eitherB at h ⊢
  rw [am_cons, am_cons]
  rw [Bool.or_eq_true] at h ⊢
  rw [Bool.or_eq_true, Bool.or_eq_true]
  exact h.imp .inr .inr
theorem ei_less {m v : ByteArray} {l : List ByteArray} (h1 : (m.toList == v.toList) = false) (h2 : (m.toList == [42]) = false) : eitherB (m :: l) v = eitherB l v := by
  unfold eitherB
  rw [am_cons, am_cons, h1, show (m.toList == starT.toList) = false by rw [show starT.toList = [42] by rw [ByteArray.toList_eq]; rfl]; exact h2]
  simp
theorem res_more {m n p : ByteArray} {l : List ByteArray} (h : resB l n p = true) : resB (m :: l) n p = true := by
  unfold resB at h ⊢
  split
  · rename_i hp; rw [if_pos hp] at h; exact ei_more h
  · rename_i hp
    rw [if_neg hp, Bool.or_eq_true] at h
    rw [Bool.or_eq_true]
    refine h.imp ei_more fun h => ?_
    rw [am_cons, h, Bool.or_true]
def moreV (m : ByteArray) (r : Ru) : Ru := ⟨m :: r.verbs, r.groups, r.resources, r.names, r.paths⟩
def moreG (m : ByteArray) (r : Ru) : Ru := ⟨r.verbs, m :: r.groups, r.resources, r.names, r.paths⟩
def moreS (m : ByteArray) (r : Ru) : Ru := ⟨r.verbs, r.groups, m :: r.resources, r.names, r.paths⟩
def moreP (m : ByteArray) (r : Ru) : Ru := ⟨r.verbs, r.groups, r.resources, r.names, m :: r.paths⟩
def lessN (r : Ru) : Ru := ⟨r.verbs, r.groups, r.resources, [], r.paths⟩
variable {m : ByteArray} {r : Ru} {x : Ak}
theorem al_split (h : allowsB r x = true) : eitherB r.verbs x.verb = true ∧ (if x.path.toList.isEmpty = true then (eitherB r.groups x.group = true ∧ resB r.resources x.resource x.part = true) ∧ namesB r x = true else r.paths.any (pathAt x.path) = true) := by
  unfold allowsB at h
  rw [Bool.and_eq_true] at h
  refine ⟨h.1, ?_⟩
  have h2 := h.2
  split
  · rename_i hp; rw [if_pos hp, Bool.and_eq_true, Bool.and_eq_true] at h2; exact h2
  · rename_i hp; rw [if_neg hp] at h2; exact h2
theorem al_mk (h1 : eitherB r.verbs x.verb = true) (h2 : if x.path.toList.isEmpty = true then (eitherB r.groups x.group = true ∧ resB r.resources x.resource x.part = true) ∧ namesB r x = true else r.paths.any (pathAt x.path) = true) : allowsB r x = true := by
  unfold allowsB
  rw [Bool.and_eq_true]
  refine ⟨h1, ?_⟩
  split
  · rename_i hp; rw [if_pos hp] at h2; rw [Bool.and_eq_true, Bool.and_eq_true]; exact h2
  · rename_i hp; rw [if_neg hp] at h2; exact h2
theorem more_v (h : allowsB r x = true) : allowsB (moreV m r) x = true := by
  obtain ⟨h1, h2⟩ := al_split h
  exact al_mk (ei_more h1) h2
theorem more_g (h : allowsB r x = true) : allowsB (moreG m r) x = true := by
  obtain ⟨h1, h2⟩ := al_split h
  refine al_mk h1 ?_
  split
  · rename_i hp; rw [if_pos hp] at h2; exact ⟨⟨ei_more h2.1.1, h2.1.2⟩, h2.2⟩
  · rename_i hp; rw [if_neg hp] at h2; exact h2
theorem more_s (h : allowsB r x = true) : allowsB (moreS m r) x = true := by
  obtain ⟨h1, h2⟩ := al_split h
  refine al_mk h1 ?_
  split
  · rename_i hp; rw [if_pos hp] at h2; exact ⟨⟨h2.1.1, res_more h2.1.2⟩, h2.2⟩
  · rename_i hp; rw [if_neg hp] at h2; exact h2
theorem more_p (h : allowsB r x = true) : allowsB (moreP m r) x = true := by
  obtain ⟨h1, h2⟩ := al_split h
  refine al_mk h1 ?_
  split
  · rename_i hp; rw [if_pos hp] at h2; exact h2
  · rename_i hp
    rw [if_neg hp] at h2
    show (m :: r.paths).any (pathAt x.path) = true
    rw [List.any_cons, h2, Bool.or_true]
theorem less_n (h : allowsB r x = true) : allowsB (lessN r) x = true := by
  obtain ⟨h1, h2⟩ := al_split h
  refine al_mk h1 ?_
  split
  · rename_i hp; rw [if_pos hp] at h2; exact ⟨h2.1, rfl⟩
  · rename_i hp; rw [if_neg hp] at h2; exact h2
theorem only_v (h : allowsB r x = false) (h1 : (m.toList == [42]) = false) (h2 : (x.verb.toList == m.toList) = false) : allowsB (moreV m r) x = false := by
  have h3 : (m.toList == x.verb.toList) = false := by rw [beq_eq_false_iff_ne] at h2 ⊢; exact fun e => h2 e.symm
  have he : eitherB (moreV m r).verbs x.verb = eitherB r.verbs x.verb := ei_less h3 h1
  unfold allowsB at h ⊢
  rw [he]; exact h
theorem only_g (h : allowsB r x = false) (h1 : (m.toList == [42]) = false) (h2 : (x.group.toList == m.toList) = false) : allowsB (moreG m r) x = false := by
  have h3 : (m.toList == x.group.toList) = false := by rw [beq_eq_false_iff_ne] at h2 ⊢; exact fun e => h2 e.symm
  have he : eitherB (moreG m r).groups x.group = eitherB r.groups x.group := ei_less h3 h1
  unfold allowsB at h ⊢
  rw [he]; exact h
end Go.Proofs.YthflpgeonllgdaaDoor.rul
