/- Layer 7: plain mathematics: labels, selectors, what is selected. Nothing of the program. -/
import Derived.Test.YthflpgeonllgdaaDoorNamPure
import Derived.Shelf.Abstract
namespace Go.Proofs.YthflpgeonllgdaaDoor.lab
open Go.Proofs.YthflpgeonllgdaaDoor.nam (keyB valB)

structure Pr where
  key : ByteArray
  value : ByteArray
structure Wt where
  key : ByteArray
  how : ByteArray
  vals : List ByteArray
structure Sel where
  labels : List Pr
  wants : List Wt

theorem beqS_iff {a b : ByteArray} : (a.toList == b.toList) = true ↔ a = b := by
  rw [beq_iff_eq, ByteArray.toList_eq, ByteArray.toList_eq]
  constructor
  · intro h
    exact ByteArray.ext (Array.toList_inj.1 h)
  · intro h; rw [h]
theorem beqS_rfl (a : ByteArray) : (a.toList == a.toList) = true := beqS_iff.2 rfl
theorem beqS_no {a b : ByteArray} : (a.toList == b.toList) = false ↔ a ≠ b := by
  constructor
  · rintro h rfl
    rw [beqS_rfl] at h; cases h
  · intro h
    cases e : (a.toList == b.toList) with
    | false => rfl
    | true => exact absurd (beqS_iff.1 e) h

/-- Where the first one is of which p holds; else -1. -/
def idxB {α : Type} (p : α → Bool) (l : List α) : Int := if l.any p then (l.findIdx p : Int) else -1
theorem idx_at {α : Type} {p : α → Bool} {l : List α} {k : Nat} (hk : k < l.length) (hp : p l[k] = true) (h : ∀ j (hj : j < l.length), j < k → p l[j] = false) : idxB p l = (k : Int) := by
  have ha : l.any p = true := List.any_eq_true.2 ⟨l[k], List.getElem_mem hk, hp⟩
  unfold idxB
  rw [if_pos ha]
  congr 1
  refine (List.findIdx_eq hk).2 ⟨hp, fun j hj => h j (by omega) hj⟩
theorem any_false {α : Type} {p : α → Bool} {l : List α} (h : ∀ j (hj : j < l.length), p l[j] = false) : l.any p = false := by
  rw [List.any_eq_false]
  intro x hx
  obtain ⟨i, hi, rfl⟩ := List.getElem_of_mem hx
  rw [h i hi]; decide
theorem idx_none {α : Type} {p : α → Bool} {l : List α} (h : ∀ j (hj : j < l.length), p l[j] = false) : idxB p l = -1 := by
  unfold idxB; rw [any_false h]; rfl
theorem idx_ge {α : Type} (p : α → Bool) (l : List α) : decide (0 ≤ idxB p l) = l.any p := by
  unfold idxB
  split
  · rename_i h; rw [h]; simp
  · rename_i h; simpa using h
theorem idx_bd {α : Type} (p : α → Bool) (l : List α) : -1 ≤ idxB p l ∧ idxB p l ≤ l.length := by
  unfold idxB
  split
  · have := List.findIdx_le_length (p := p) (xs := l); omega
  · omega

def keyIs (k : ByteArray) (p : Pr) : Bool := p.key.toList == k.toList
def hasB (l : List Pr) (k : ByteArray) : Bool := l.any (keyIs k)
def hasV (l : List Pr) (k : ByteArray) : ByteArray := match l.find? (keyIs k) with
  | some p => p.value
  | none => ⟨#[]⟩
theorem has_at {l : List Pr} {k : ByteArray} {i : Nat} (hi : i < l.length) (hp : keyIs k l[i] = true) (h : ∀ j (hj : j < l.length), j < i → keyIs k l[j] = false) : hasB l k = true ∧ hasV l k = l[i].value := by
  refine ⟨List.any_eq_true.2 ⟨_, List.getElem_mem hi, hp⟩, ?_⟩
  have : l.find? (keyIs k) = some l[i] := List.find?_eq_some_iff_getElem.2 ⟨hp, i, hi, rfl, fun j hj => by rw [h j (by omega) hj]; rfl⟩
  unfold hasV
  rw [this]
theorem has_none {l : List Pr} {k : ByteArray} (h : ∀ j (hj : j < l.length), keyIs k l[j] = false) : hasB l k = false ∧ hasV l k = ⟨#[]⟩ := by
  refine ⟨any_false h, ?_⟩
  have : l.find? (keyIs k) = none := by
    rw [List.find?_eq_none]
    intro x hx
    obtain ⟨i, hi, rfl⟩ := List.getElem_of_mem hx
    rw [h i hi]; decide
  unfold hasV
  rw [this]
theorem has_idx {l : List Pr} {k : ByteArray} (h : hasB l k = true) : ∃ i, ∃ hi : i < l.length, idxB (keyIs k) l = (i : Int) ∧ hasV l k = l[i].value := by
  have hlt := List.findIdx_lt_length.2 (List.any_eq_true.1 h)
  refine ⟨l.findIdx (keyIs k), hlt, by unfold idxB; rw [if_pos (by exact h)], ?_⟩
  exact (has_at hlt List.findIdx_getElem fun j hj hjk => by simpa using List.not_of_lt_findIdx hjk).2
theorem has_no {l : List Pr} {k : ByteArray} (h : hasB l k = false) : idxB (keyIs k) l = -1 ∧ hasV l k = ⟨#[]⟩ := by
  have hj : ∀ j (hj : j < l.length), keyIs k l[j] = false := fun j hj => by
    have := List.any_eq_false.1 h l[j] (List.getElem_mem hj)
    simpa using this
  exact ⟨idx_none hj, (has_none hj).2⟩

def okP (p : Pr) : Bool := keyB p.key.data.toList && valB p.value.data.toList
/-- The pair at a place may be there, and its key did not stand ahead. -/
def okAt (l : List Pr) (i : Nat) : Bool := match l[i]? with
  | some p => okP p && !((l.take i).any (keyIs p.key))
  | none => true
def labelsB (l : List Pr) : Bool := (List.range l.length).all (okAt l)
theorem labels_iff {l : List Pr} : labelsB l = true ↔ ∀ i, i < l.length → okAt l i = true := by
  unfold labelsB; simp [List.all_eq_true]
theorem labels_no {l : List Pr} {i : Nat} (h : i < l.length) (hn : okAt l i = false) : labelsB l = false := by
  cases e : labelsB l
  · rfl
  · have := labels_iff.1 e i h; rw [hn] at this; cases this
theorem okAt_eq {l : List Pr} {i : Nat} (h : i < l.length) : okAt l i = (okP l[i] && !((l.take i).any (keyIs l[i].key))) := by
  unfold okAt; rw [List.getElem?_eq_getElem h]

def inS : ByteArray := ⟨#[73, 110]⟩
def notS : ByteArray := ⟨#[78, 111, 116, 73, 110]⟩
def thereS : ByteArray := ⟨#[69, 120, 105, 115, 116, 115]⟩
def goneS : ByteArray := ⟨#[68, 111, 101, 115, 78, 111, 116, 69, 120, 105, 115, 116]⟩
def among (vals : List ByteArray) (v : ByteArray) : Bool := vals.any fun x => x.toList == v.toList
def amongB (vals : List ByteArray) (v : ByteArray) (is : Bool) : Bool := is && among vals v
/-- What a want asks of what a label says, and whether it is there. -/
def pickB (w : Wt) (v : ByteArray) (is : Bool) : Bool :=
  if w.how = inS then amongB w.vals v is else if w.how = notS then !(amongB w.vals v is) else if w.how = thereS then is else if w.how = goneS then !is else false
def wantsB (w : Wt) (l : List Pr) : Bool := pickB w (hasV l w.key) (hasB l w.key)
def pairB (l : List Pr) (p : Pr) : Bool := hasB l p.key && ((hasV l p.key).toList == p.value.toList)
def selB (s : Sel) (l : List Pr) : Bool := s.labels.all (pairB l) && s.wants.all fun w => wantsB w l
def valsB (vals : List ByteArray) : Bool := vals.all fun x => valB x.data.toList
def wantB (w : Wt) : Bool :=
  keyB w.key.data.toList && (if w.how = inS ∨ w.how = notS then decide (0 < w.vals.length) && valsB w.vals else if w.how = thereS ∨ w.how = goneS then decide (w.vals.length = 0) else false)
def checkB (s : Sel) : Bool := labelsB s.labels && s.wants.all wantB
def emptyB (s : Sel) : Bool := decide (s.labels.length = 0) && decide (s.wants.length = 0)

theorem how_ne : notS ≠ inS ∧ thereS ≠ inS ∧ thereS ≠ notS ∧ goneS ≠ inS ∧ goneS ≠ notS ∧ goneS ≠ thereS := by decide +kernel

/-! What follows. -/
theorem sel_pair (s : Sel) (l : List Pr) (p : Pr) : selB ⟨s.labels ++ [p], s.wants⟩ l = (selB s l && pairB l p) := by
  unfold selB
  simp only [List.all_append, List.all_cons, List.all_nil, Bool.and_true]
  cases s.labels.all (pairB l) <;> cases pairB l p <;> simp
theorem sel_want (s : Sel) (l : List Pr) (w : Wt) : selB ⟨s.labels, s.wants ++ [w]⟩ l = (selB s l && wantsB w l) := by
  unfold selB
  simp only [List.all_append, List.all_cons, List.all_nil, Bool.and_true, Bool.and_assoc]
theorem sel_twice (s : Sel) (l : List Pr) : selB ⟨s.labels, s.wants ++ s.wants⟩ l = selB s l := by
  unfold selB
  simp only [List.all_append, Bool.and_self]
theorem wants_how (w : Wt) (l : List Pr) :
    wantsB ⟨w.key, inS, w.vals⟩ l = amongB w.vals (hasV l w.key) (hasB l w.key) ∧ wantsB ⟨w.key, notS, w.vals⟩ l = !(amongB w.vals (hasV l w.key) (hasB l w.key)) ∧
    wantsB ⟨w.key, thereS, w.vals⟩ l = hasB l w.key ∧ wantsB ⟨w.key, goneS, w.vals⟩ l = !(hasB l w.key) := by
  obtain ⟨h1, h2, h3, h4, h5, h6⟩ := how_ne
  unfold wantsB pickB
  simp [h1, h2, h3, h4, h5, h6]
theorem among_snoc (vals : List ByteArray) (m v : ByteArray) (is : Bool) : amongB (vals ++ [m]) v is = (amongB vals v is || (is && (v.toList == m.toList))) := by
  unfold amongB among
  rw [List.any_append]
  simp only [List.any_cons, List.any_nil, Bool.or_false]
  rw [show (m.toList == v.toList) = (v.toList == m.toList) from by rw [Bool.eq_iff_iff, beqS_iff, beqS_iff]; exact eq_comm]
  cases is <;> simp

theorem keys_iff {l : List Pr} : labelsB l = true ↔ (∀ p ∈ l, okP p = true) ∧ (l.map (·.key)).Nodup := by
  rw [labels_iff]
  constructor
  · intro h
    refine ⟨fun p hp => ?_, ?_⟩
    · obtain ⟨i, hi, rfl⟩ := List.getElem_of_mem hp
      have := h i hi
      rw [okAt_eq hi, Bool.and_eq_true] at this
      exact this.1
    · rw [List.nodup_iff_pairwise_ne, List.pairwise_iff_getElem]
      intro i j hi hj hij e
      simp only [List.length_map] at hi hj
      have := h j hj
      rw [okAt_eq hj, Bool.and_eq_true] at this
      have h2 := this.2
      simp only [Bool.not_eq_true', List.any_eq_false] at h2
      have hm : l[i] ∈ l.take j := List.mem_take_iff_getElem.2 ⟨i, by omega, rfl⟩
      refine h2 _ hm ?_
      simp only [List.getElem_map] at e
      unfold keyIs
      exact beqS_iff.2 e
  · rintro ⟨h1, h2⟩ i hi
    rw [okAt_eq hi, Bool.and_eq_true]
    refine ⟨h1 _ (List.getElem_mem hi), ?_⟩
    simp only [Bool.not_eq_true', List.any_eq_false]
    intro p hp hk
    obtain ⟨j, hj, rfl⟩ := List.mem_take_iff_getElem.1 hp
    rw [List.nodup_iff_pairwise_ne, List.pairwise_iff_getElem] at h2
    have hj1 : j < i := by omega
    refine h2 j i (by simp; omega) (by simpa using hi) hj1 ?_
    simp only [List.getElem_map]
    exact beqS_iff.1 hk
theorem nodup_rev {α : Type} {l : List α} (h : l.Nodup) : l.reverse.Nodup := by
  rw [List.nodup_iff_pairwise_ne] at h ⊢
  rw [List.pairwise_reverse]
  exact h.imp fun h e => h e.symm
theorem labels_rev (l : List Pr) : labelsB l.reverse = labelsB l := by
  rw [Bool.eq_iff_iff, keys_iff, keys_iff]
  simp only [List.mem_reverse, List.map_reverse]
  refine and_congr_right fun _ => ⟨fun h => ?_, nodup_rev⟩
  have := nodup_rev h
  rwa [List.reverse_reverse] at this
theorem has_mem {l : List Pr} (hn : (l.map (·.key)).Nodup) {p : Pr} (hp : p ∈ l) : hasB l p.key = true ∧ hasV l p.key = p.value := by
  obtain ⟨i, hi, rfl⟩ := List.getElem_of_mem hp
  refine has_at hi (beqS_rfl _) fun j hj hji => ?_
  unfold keyIs
  rw [beqS_no]
  intro e
  rw [List.nodup_iff_pairwise_ne, List.pairwise_iff_getElem] at hn
  exact hn j i (by simpa using hj) (by simpa using hi) hji (by simpa using e)
theorem has_same {l m : List Pr} (hl : (l.map (·.key)).Nodup) (hm : (m.map (·.key)).Nodup) (h : ∀ p, p ∈ l ↔ p ∈ m) (k : ByteArray) : hasB l k = hasB m k ∧ hasV l k = hasV m k := by
  by_cases he : ∃ p ∈ l, p.key = k
  · obtain ⟨p, hp, rfl⟩ := he
    obtain ⟨a1, a2⟩ := has_mem hl hp
    obtain ⟨b1, b2⟩ := has_mem hm ((h p).1 hp)
    rw [a1, a2, b1, b2]; exact ⟨rfl, rfl⟩
  · have hno : ∀ (l : List Pr), (∀ p ∈ l, p.key ≠ k) → hasB l k = false ∧ hasV l k = ⟨#[]⟩ := fun l hl => has_none fun j hj => beqS_no.2 (hl _ (List.getElem_mem hj))
    have h1 : ∀ p ∈ l, p.key ≠ k := fun p hp e => he ⟨p, hp, e⟩
    obtain ⟨a1, a2⟩ := hno l h1
    obtain ⟨b1, b2⟩ := hno m fun p hp => h1 p ((h p).2 hp)
    rw [a1, a2, b1, b2]; exact ⟨rfl, rfl⟩
theorem sel_has {l m : List Pr} (h : ∀ k, hasB l k = hasB m k ∧ hasV l k = hasV m k) (s : Sel) : selB s l = selB s m := by
  have hp : pairB l = pairB m := funext fun p => by unfold pairB; rw [(h p.key).1, (h p.key).2]
  have hw : (fun w => wantsB w l) = fun w => wantsB w m := funext fun w => by unfold wantsB; rw [(h w.key).1, (h w.key).2]
  unfold selB
  rw [hp, hw]
theorem sel_rev (s : Sel) {l : List Pr} (h : labelsB l = true) : selB s l = selB s l.reverse := by
  have h2 := (keys_iff.1 h).2
  exact sel_has (fun k => has_same h2 (by rw [List.map_reverse]; exact nodup_rev h2) (fun p => by simp) k) s
theorem sel_turn (s : Sel) (l : List Pr) : selB ⟨s.labels.reverse, s.wants.reverse⟩ l = selB s l := by
  unfold selB; simp only [List.all_reverse]
theorem check_turn (s : Sel) : checkB ⟨s.labels.reverse, s.wants.reverse⟩ = checkB s := by
  unfold checkB; simp only [List.all_reverse, labels_rev]
theorem sel_own {l : List Pr} (h : labelsB l = true) : selB ⟨l, []⟩ l = true := by
  have h2 := (keys_iff.1 h).2
  unfold selB
  simp only [List.all_nil, Bool.and_true, List.all_eq_true]
  intro p hp
  obtain ⟨a1, a2⟩ := has_mem h2 hp
  unfold pairB
  rw [a1, a2, beqS_rfl]; rfl
theorem sel_nothing (l : List Pr) : selB ⟨[], []⟩ l = true := rfl
theorem check_own {l : List Pr} (h : labelsB l = true) : checkB ⟨l, []⟩ = true := by unfold checkB; rw [h]; rfl
/-- One left out: it is not selected; what is left selects all. -/
theorem sel_out {l : List Pr} (h : labelsB l = true) {k : Nat} (hk : k < l.length) : selB ⟨l, []⟩ (l.take k ++ l.drop (k + 1)) = false ∧ selB ⟨l.take k ++ l.drop (k + 1), []⟩ l = true := by
  have h2 := (keys_iff.1 h).2
  have hmem : ∀ p ∈ l.take k ++ l.drop (k + 1), p ∈ l := fun p hp => by
    rcases List.mem_append.1 hp with hp | hp
    · exact List.mem_of_mem_take hp
    · exact List.mem_of_mem_drop hp
  refine ⟨?_, ?_⟩
  · have hno : hasB (l.take k ++ l.drop (k + 1)) l[k].key = false := by
      refine (has_none fun j hj => beqS_no.2 fun e => ?_).1
      have hd : l.take k ++ l.drop (k + 1) = l.eraseIdx k := (List.eraseIdx_eq_take_drop_succ l k).symm
      have hlen : (l.take k ++ l.drop (k + 1)).length = l.length - 1 := by rw [hd, List.length_eraseIdx_of_lt hk]
      rw [List.nodup_iff_pairwise_ne, List.pairwise_iff_getElem] at h2
      by_cases hjk : j < k
      · have e1 : (l.take k ++ l.drop (k + 1))[j] = l[j]'(by omega) := by
          rw [List.getElem_append_left (by simp; omega), List.getElem_take]
        rw [e1] at e
        exact h2 j k (by simp; omega) (by simpa using hk) hjk (by simpa using e)
      · have e1 : (l.take k ++ l.drop (k + 1))[j] = l[j + 1]'(by omega) := by
          rw [List.getElem_append_right (by simp; omega), List.getElem_drop]
          congr 1
          simp
          omega
        rw [e1] at e
        exact h2 k (j + 1) (by simpa using hk) (by simp; omega) (by omega) (by simpa using e.symm)
    unfold selB
    simp only [List.all_nil, Bool.and_true, List.all_eq_false]
    exact ⟨l[k], List.getElem_mem hk, by unfold pairB; rw [hno]; simp⟩
  · unfold selB
    simp only [List.all_nil, Bool.and_true, List.all_eq_true]
    intro p hp
    obtain ⟨a1, a2⟩ := has_mem h2 (hmem p hp)
    unfold pairB
    rw [a1, a2, beqS_rfl]; rfl
theorem has_append (l : List Pr) (k : ByteArray) (a b : ByteArray) :
    hasB (l ++ [⟨k, a⟩, ⟨k, b⟩]) k = true ∧ hasV (l ++ [⟨k, a⟩, ⟨k, b⟩]) k = if hasB l k then hasV l k else a := by
  have hk : keyIs k ⟨k, a⟩ = true := beqS_rfl k
  refine ⟨by unfold hasB; rw [List.any_append]; simp [hk], ?_⟩
  unfold hasV hasB
  rw [List.find?_append]
  cases hf : l.find? (keyIs k) with
  | some p =>
    have : l.any (keyIs k) = true := List.any_eq_true.2 ⟨p, List.mem_of_find?_eq_some hf, List.find?_some hf⟩
    rw [this]; rfl
  | none =>
    have : l.any (keyIs k) = false := by
      rw [List.any_eq_false]; exact List.find?_eq_none.1 hf
    rw [this]
    simp [hk]
end Go.Proofs.YthflpgeonllgdaaDoor.lab
