/- Layer 4: what read makes of a row, plain, and that it is what the document's made makes. -/
import Derived.Test.YtkecimhohmkkkaaDoorTreMadeW
namespace Go.Proofs.YtkecimhohmkkkaaDoor.tre
open Go.RowKit Go.Shelf

/-- read's own function, from a place on: the value so far at a depth, and the place at which it stops; the first number is no less than the items that are left. -/
def loopR (l : List It) : Nat → Nat → Int → V → V × Nat
  | 0, p, _, m => (m, p)
  | n + 1, p, d, m =>
    if h : p < l.length then
      if (l[p]'h).d = d + 1 then
        if m.kind = 5 then loopR l n (loopR l n (p + 1) (d + 1) (leafV (l[p]'h))).2 d (addF m (l[p]'h).key (loopR l n (p + 1) (d + 1) (leafV (l[p]'h))).1)
        else if m.kind = 4 ∧ (l[p]'h).key.toList.isEmpty = true then loopR l n (loopR l n (p + 1) (d + 1) (leafV (l[p]'h))).2 d (addL m (loopR l n (p + 1) (d + 1) (leafV (l[p]'h))).1)
        else (m, p)
      else (m, p)
    else (m, p)
theorem loopR_out {l : List It} {p : Nat} {d : Int} {m : V} (h : ∀ h : p < l.length, ¬ l[p].d = d + 1) (n : Nat) : loopR l n p d m = (m, p) := by
  cases n with
  | zero => rfl
  | succ n =>
    rw [loopR]
    split
    · rename_i h2; rw [if_neg (h h2)]
    · rfl
theorem loopR_off {l : List It} {p : Nat} {d : Int} {m : V} (h : p < l.length) (h5 : ¬ m.kind = 5) (h4 : ¬ (m.kind = 4 ∧ l[p].key.toList.isEmpty = true)) (n : Nat) : loopR l n p d m = (m, p) := by
  cases n with
  | zero => rfl
  | succ n => rw [loopR, dif_pos h, if_neg h5, if_neg h4, ite_self]
theorem loopR_map {l : List It} {p n : Nat} {d : Int} {m : V} (h : p < l.length) (hd : l[p].d = d + 1) (h5 : m.kind = 5) :
    loopR l (n + 1) p d m = loopR l n (loopR l n (p + 1) (d + 1) (leafV l[p])).2 d (addF m l[p].key (loopR l n (p + 1) (d + 1) (leafV l[p])).1) := by
  rw [loopR, dif_pos h, if_pos hd, if_pos h5]
theorem loopR_list {l : List It} {p n : Nat} {d : Int} {m : V} (h : p < l.length) (hd : l[p].d = d + 1) (h4 : m.kind = 4) (hk : l[p].key.toList.isEmpty = true) :
    loopR l (n + 1) p d m = loopR l n (loopR l n (p + 1) (d + 1) (leafV l[p])).2 d (addL m (loopR l n (p + 1) (d + 1) (leafV l[p])).1) := by
  rw [loopR, dif_pos h, if_pos hd, if_neg (by rw [h4]; decide), if_pos ⟨h4, hk⟩]
theorem loopR_le (l : List It) : ∀ (n p : Nat) (d : Int) (m : V), p ≤ (loopR l n p d m).2
  | 0, _, _, _ => Nat.le_refl _
  | n + 1, p, d, m => by
    rw [loopR]
    split
    · rename_i h
      have h1 := loopR_le l n (p + 1) (d + 1) (leafV l[p])
      split
      · split
        · exact Nat.le_trans (Nat.le_of_succ_le h1) (loopR_le l n _ d _)
        · split
          · exact Nat.le_trans (Nat.le_of_succ_le h1) (loopR_le l n _ d _)
          · exact Nat.le_refl _
      · exact Nat.le_refl _
    · exact Nat.le_refl _
theorem loopR_top (l : List It) : ∀ (n p : Nat) (d : Int) (m : V), p ≤ l.length → (loopR l n p d m).2 ≤ l.length
  | 0, _, _, _, hp => hp
  | n + 1, p, d, m, hp => by
    rw [loopR]
    split
    · rename_i h
      have h1 := loopR_top l n (p + 1) (d + 1) (leafV l[p]) h
      split
      · split
        · exact loopR_top l n _ d _ h1
        · split
          · exact loopR_top l n _ d _ h1
          · exact hp
      · exact hp
    · exact hp
theorem loopR_is : ∀ (n : Nat) (l : List It) (a N : Nat) (d : Int) (m : V), l.length - (a + N) ≤ n → 0 < N →
    (∀ x k, loopV (l.drop a) d m N = some (x, k) → loopR l n (a + N) d m = (x, a + k)) ∧
    (loopV (l.drop a) d m N = none → ∃ h : (loopR l n (a + N) d m).2 < l.length, d < l[(loopR l n (a + N) d m).2].d)
  | n, l, a, N, d, m, hn, h0 => by
    by_cases hlt : a + N < l.length
    · have hN : N < (l.drop a).length := by rw [List.length_drop]; omega
      have hg : (l.drop a)[N] = l[a + N] := List.getElem_drop
      by_cases hd : d < l[a + N].d
      · have hin := loop_in (l.drop a) d m N h0 hN (by rw [hg]; exact hd)
        rw [List.drop_drop, hg, madeV_drop l (a + N) hlt] at hin
        by_cases he : l[a + N].d = d + 1
        · rw [if_pos he] at hin
          obtain ⟨n, rfl⟩ : ∃ n', n = n' + 1 := ⟨n - 1, by omega⟩
          have ih1 := loopR_is n l (a + N) 1 (d + 1) (leafV l[a + N]) (by omega) (by omega)
          cases hs : loopV (l.drop (a + N)) (d + 1) (leafV l[a + N]) 1 with
          | none =>
            rw [hs] at hin
            obtain ⟨he1, he2⟩ := ih1.2 hs
            have hq : ∀ m', loopR l n (loopR l n (a + N + 1) (d + 1) (leafV l[a + N])).2 d m' = (m', (loopR l n (a + N + 1) (d + 1) (leafV l[a + N])).2) := fun m' => loopR_out (fun h => by omega) n
            refine ⟨fun x k h => (by rw [hin] at h; cases h), fun _ => ?_⟩
            by_cases h5 : m.kind = 5
            · have e := loopR_map (n := n) hlt he h5
              rw [hq] at e
              simp only [e]
              exact ⟨he1, by omega⟩
            · by_cases h4 : m.kind = 4 ∧ l[a + N].key.toList.isEmpty = true
              · have e := loopR_list (n := n) hlt he h4.1 h4.2
                rw [hq] at e
                simp only [e]
                exact ⟨he1, by omega⟩
              · simp only [loopR_off hlt h5 h4 (n + 1)]
                exact ⟨hlt, hd⟩
          | some xk =>
            obtain ⟨x, k⟩ := xk
            rw [hs] at hin
            have hk1 := (loopV_pos _ _ _ _ _ (Nat.le_refl _) (by omega) x k hs).1
            have es := ih1.1 x k hs
            simp only at hin
            rw [if_neg (by omega)] at hin
            by_cases h5 : m.kind = 5
            · rw [if_neg (by rw [h5]; decide), if_pos h5] at hin
              have e := loopR_map (n := n) hlt he h5
              rw [es] at e
              have ih2 := loopR_is n l a (N + k) d (addF m l[a + N].key x) (by omega) (by omega)
              rw [show a + (N + k) = a + N + k by omega] at ih2
              rw [hin, e]
              exact ih2
            · by_cases h4 : m.kind = 4
              · rw [if_pos h4] at hin
                by_cases hk : l[a + N].key.toList.isEmpty = true
                · rw [if_pos hk] at hin
                  have e := loopR_list (n := n) hlt he h4 hk
                  rw [es] at e
                  have ih2 := loopR_is n l a (N + k) d (addL m x) (by omega) (by omega)
                  rw [show a + (N + k) = a + N + k by omega] at ih2
                  rw [hin, e]
                  exact ih2
                · rw [if_neg hk] at hin
                  refine ⟨fun x k h => (by rw [hin] at h; cases h), fun _ => ?_⟩
                  simp only [loopR_off hlt h5 (fun h => hk h.2) (n + 1)]
                  exact ⟨hlt, hd⟩
              · rw [if_neg h4, if_neg h5] at hin
                refine ⟨fun x k h => (by rw [hin] at h; cases h), fun _ => ?_⟩
                simp only [loopR_off hlt h5 (fun h => h4 h.1) (n + 1)]
                exact ⟨hlt, hd⟩
        · rw [if_neg he] at hin
          refine ⟨fun x k h => (by rw [hin] at h; cases h), fun _ => ?_⟩
          simp only [loopR_out (l := l) (p := a + N) (d := d) (m := m) (fun _ => he) n]
          exact ⟨hlt, hd⟩
      · have ho := loop_out (l.drop a) d m N (fun _ => by rw [hg]; exact hd)
        refine ⟨fun x k h => ?_, fun h => by rw [ho] at h; cases h⟩
        rw [ho] at h
        cases h
        exact loopR_out (fun _ => by omega) n
    · have ho := loop_out (l.drop a) d m N (fun h => by rw [List.length_drop] at h; omega)
      refine ⟨fun x k h => ?_, fun h => by rw [ho] at h; cases h⟩
      rw [ho] at h
      cases h
      exact loopR_out (fun h => absurd h hlt) n
/-- What read makes of a whole row at depth 0. -/
def readV (x : It) (l : List It) : V × Nat := loopR (x :: l) (x :: l).length 1 0 (leafV x)
/-- read comes to the end where the document's made does, and then with the same value. -/
theorem read_made (x : It) (l : List It) (hd : x.d = 0) : ((readV x l).2 < (x :: l).length ↔ ¬ (madeR (x :: l) 0).2 = (x :: l).length) ∧ (¬ (readV x l).2 < (x :: l).length → readV x l = madeR (x :: l) 0) := by
  have h := loopR_is (x :: l).length (x :: l) 0 1 0 (leafV x) (by omega) (by omega)
  rw [Nat.zero_add] at h
  have hm : madeV (x :: l) 0 = loopV (x :: l) 0 (leafV x) 1 := if_pos hd
  rw [List.drop_zero] at h
  cases hs : loopV (x :: l) 0 (leafV x) 1 with
  | none =>
    have hr : madeR (x :: l) 0 = (madeR.nilM, 0) := by unfold madeR; rw [hm, hs]
    obtain ⟨h1, _⟩ := h.2 hs
    rw [hr]
    refine ⟨⟨fun _ => by simp, fun _ => h1⟩, fun h2 => absurd h1 h2⟩
  | some xk =>
    obtain ⟨y, k⟩ := xk
    have hr : madeR (x :: l) 0 = (y, k) := by unfold madeR; rw [hm, hs]
    have h1 := h.1 y k hs
    have hk : k ≤ (x :: l).length := by
      have h3 := loopR_top (x :: l) (x :: l).length 1 0 (leafV x) (by simp)
      rw [h1] at h3
      simpa using h3
    have h2 : readV x l = (y, k) := by unfold readV; rw [h1, Nat.zero_add]
    rw [hr, h2]
    exact ⟨⟨fun h => by simp only at h; simp only; omega, fun h => by simp only at h; simp only; omega⟩, fun _ => rfl⟩
end Go.Proofs.YtkecimhohmkkkaaDoor.tre
