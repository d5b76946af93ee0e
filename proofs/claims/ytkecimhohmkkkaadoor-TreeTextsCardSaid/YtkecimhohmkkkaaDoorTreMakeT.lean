/- Layer 4: what Make answers, plain, and that it is what the document's answers. -/
import Derived.Test.YtkecimhohmkkkaaDoorTreReadP
import Derived.Test.YtkecimhohmkkkaaDoorTreMakeP
import Derived.Test.YtkecimhohmkkkaaDoorTreChkR
namespace Go.Proofs.YtkecimhohmkkkaaDoor.tre
open Go.RowKit Go.Shelf

theorem maxN_app (a b : List Nat) : maxN a ≤ maxN (a ++ b) := maxN_le (fun _ hx => le_maxN (List.mem_append_left _ hx))
theorem depth_pos (v : V) : 1 ≤ depthV v := by rw [depthV_eq]; omega
theorem depth_addL (m x : V) : depthV m ≤ depthV (addL m x) ∧ depthV x + 1 ≤ depthV (addL m x) := by
  refine ⟨?_, depth_list (show x ∈ (addL m x).list from List.mem_append_right _ (List.mem_singleton.2 rfl))⟩
  rw [depthV_eq m, depthV_eq (addL m x)]
  have h : maxN (m.list.map depthV) ≤ maxN ((m.list ++ [x]).map depthV) := by rw [List.map_append]; exact maxN_app _ _
  have e1 : (addL m x).list = m.list ++ [x] := rfl
  have e2 : (addL m x).fields = m.fields := rfl
  rw [e1, e2]; omega
theorem depth_addF (m : V) (k : ByteArray) (x : V) : depthV m ≤ depthV (addF m k x) ∧ depthV x + 1 ≤ depthV (addF m k x) := by
  refine ⟨?_, depth_fields (g := (k, x)) (show (k, x) ∈ (addF m k x).fields from List.mem_append_right _ (List.mem_singleton.2 rfl))⟩
  rw [depthV_eq m, depthV_eq (addF m k x)]
  have h : maxN (m.fields.map fun g => depthV g.2) ≤ maxN ((m.fields ++ [(k, x)]).map fun g => depthV g.2) := by rw [List.map_append]; exact maxN_app _ _
  have e1 : (addF m k x).list = m.list := rfl
  have e2 : (addF m k x).fields = m.fields ++ [(k, x)] := rfl
  rw [e1, e2]; omega
theorem loopR_depth (l : List It) : ∀ (n p : Nat) (d : Int) (m : V), depthV m ≤ depthV (loopR l n p d m).1 ∧ ∀ i (h : i < l.length), p ≤ i → i < (loopR l n p d m).2 → d < l[i].d ∧ l[i].d < d + depthV (loopR l n p d m).1
  | 0, p, d, m => ⟨Nat.le_refl _, fun i h h1 h2 => absurd h2 (by show ¬ i < p; omega)⟩
  | n + 1, p, d, m => by
    have stop : ∀ r : V × Nat, r = (m, p) → depthV m ≤ depthV r.1 ∧ ∀ i (h : i < l.length), p ≤ i → i < r.2 → d < l[i].d ∧ l[i].d < d + depthV r.1 := fun r e => by
      subst e
      exact ⟨Nat.le_refl _, fun i h h1 h2 => absurd h2 (by show ¬ i < p; omega)⟩
    by_cases h : p < l.length
    · by_cases hd : l[p].d = d + 1
      · have i1 := loopR_depth l n (p + 1) (d + 1) (leafV l[p])
        have hp := depth_pos (leafV l[p])
        have on : ∀ m', depthV m ≤ depthV m' → depthV (loopR l n (p + 1) (d + 1) (leafV l[p])).1 + 1 ≤ depthV m' → ∀ r, r = loopR l n (loopR l n (p + 1) (d + 1) (leafV l[p])).2 d m' →
            depthV m ≤ depthV r.1 ∧ ∀ i (h : i < l.length), p ≤ i → i < r.2 → d < l[i].d ∧ l[i].d < d + depthV r.1 := fun m' h1 h2 r e => by
          subst e
          have i2 := loopR_depth l n (loopR l n (p + 1) (d + 1) (leafV l[p])).2 d m'
          refine ⟨Nat.le_trans h1 i2.1, fun i hi h3 h4 => ?_⟩
          by_cases h5 : i = p
          · subst h5
            have := i1.1; have := i2.1
            omega
          · by_cases h6 : i < (loopR l n (p + 1) (d + 1) (leafV l[p])).2
            · have := i1.2 i hi (by omega) h6
              have := i2.1
              omega
            · exact i2.2 i hi (by omega) h4
        by_cases h5 : m.kind = 5
        · exact on _ (depth_addF m l[p].key _).1 (depth_addF m l[p].key _).2 _ (loopR_map h hd h5)
        · by_cases h4 : m.kind = 4 ∧ l[p].key.toList.isEmpty = true
          · exact on _ (depth_addL m _).1 (depth_addL m _).2 _ (loopR_list h hd h4.1 h4.2)
          · exact stop _ (loopR_off h h5 h4 _)
      · exact stop _ (loopR_out (fun _ => hd) _)
    · exact stop _ (loopR_out (fun h' => absurd h' h) _)
/-- What Make answers, of rows of a size that may be. -/
def makeT (l : List It) : V × Bool :=
  match l with
  | [] => (nilV, false)
  | x :: r =>
    if ¬ x.d = 0 ∨ x.key.toList.isEmpty = false then (nilV, false)
    else if (readV x r).2 < (x :: r).length ∨ checkW (readV x r).1 = false then (nilV, false) else ((readV x r).1, true)
theorem read_count (x : It) (l : List It) (hd : x.d = 0) (h : ¬ (readV x l).2 < (x :: l).length) : countV (readV x l).1 = (x :: l).length := by
  obtain ⟨h1, h2⟩ := read_made x l hd
  have e := h2 h
  have hk := (Decidable.not_iff_not.2 h1).1 h
  rw [Decidable.not_not] at hk
  cases hm : madeV (x :: l) 0 with
  | none =>
    unfold madeR at hk
    rw [hm] at hk
    simp at hk
  | some yk =>
    obtain ⟨y, k⟩ := yk
    have e2 : madeR (x :: l) 0 = (y, k) := by unfold madeR; rw [hm]
    rw [e2] at hk
    rw [e, e2, madeV_count _ _ _ _ hm]
    exact hk
theorem makeT_eq (l : List It) (hl : l.length ≤ 2000) : makeT l = makeR l := by
  match l, hl with
  | [], _ => rfl
  | x :: r, hl =>
    unfold makeT makeR
    simp only
    by_cases hk : x.key.toList.isEmpty = true
    · by_cases hd : x.d = 0
      · rw [if_neg (by rw [hk]; simp [hd])]
        obtain ⟨h1, h2⟩ := read_made x r hd
        by_cases hr : (readV x r).2 < (x :: r).length
        · rw [if_pos (.inl hr)]
          have hn := h1.1 hr
          split
          · rfl
          · rw [if_neg (fun h => hn h.1)]
        · have e := h2 hr
          have hc := read_count x r hd hr
          have hw : checkW (readV x r).1 = checkR (readV x r).1 := checkW_eq _ (by omega)
          have hN : (madeR (x :: r) 0).2 = (x :: r).length := by
            have := (Decidable.not_iff_not.2 h1).1 hr
            rwa [Decidable.not_not] at this
          rw [hw, e]
          cases hch : checkR (madeR (x :: r) 0).1 with
          | false =>
            rw [if_pos (.inr rfl)]
            split
            · rfl
            · rw [if_neg (fun h => by cases h.2)]
          | true =>
            rw [← e, if_neg (by rintro (h | h); exact hr h; cases h), e]
            have hdp : depthV (madeR (x :: r) 0).1 ≤ 12 := by
              unfold checkR at hch
              simp only [Bool.and_eq_true, decide_eq_true_eq] at hch
              exact hch.1.1
            have hbad : (x :: r).any badIt = false := by
              rw [List.any_eq_false]
              intro y hy
              obtain ⟨i, hi, rfl⟩ := List.getElem_of_mem hy
              have hrd := loopR_depth (x :: r) (x :: r).length 1 0 (leafV x)
              have e3 : loopR (x :: r) (x :: r).length 1 0 (leafV x) = readV x r := rfl
              rw [e3, e] at hrd
              unfold badIt
              by_cases h0 : i = 0
              · subst h0
                simp [hd]
              · have := hrd.2 i hi (by omega) (by rw [hN]; exact hi)
                simp only [Bool.or_eq_true, decide_eq_true_eq]
                omega
            rw [if_neg (by rw [hk, hbad]; simp), if_pos ⟨hN, rfl⟩]
      · rw [if_pos (.inl hd)]
        split
        · rfl
        · rw [if_neg]
          rintro ⟨h, _⟩
          have : madeV (x :: r) 0 = none := if_neg hd
          unfold madeR at h
          rw [this] at h
          simp at h
    · have hk2 : x.key.toList.isEmpty = false := by simpa using hk
      rw [if_pos (.inr hk2), if_pos (by rw [hk2]; rfl)]
end Go.Proofs.YtkecimhohmkkkaaDoor.tre
