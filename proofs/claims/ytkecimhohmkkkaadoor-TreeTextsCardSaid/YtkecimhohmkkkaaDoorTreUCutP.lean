/- Layer 1, plain mathematics: what is cut has the first points, and just these. -/
import Derived.Test.YtkecimhohmkkkaaDoorTreUPure
namespace Go.Proofs.YtkecimhohmkkkaaDoor.utf

theorem psz_pos {p : Int} (h : isPt p = true) : psz p ≠ 0 := fun e => by rw [psz_zero, h] at e; cases e
theorem sq_encP (p : Int) (h : isPt p = true) (a : Nat) (rest : List UInt8) : sq a (enc p ++ rest) = (a, p) :: sq (a + psz p) rest := by
  have hn := nxt_enc p rest h
  rw [sq_step (by rw [hn]; exact psz_pos h), hn]
  have h0 := ((isPt_iff p).1 h).1
  simp only [Int.toNat_of_nonneg h0]
  rw [List.drop_append_of_le_length (by rw [enc_length]; exact Nat.le_refl _), ← enc_length p, List.drop_length, List.nil_append]
/-- A text without a bad place begins with its first point's bytes. -/
theorem head_enc {a : Nat} {l : List UInt8} (hl : l ≠ []) (h : ∀ y ∈ sq a l, y.2 ≠ -1) :
    ∃ (q : Int) (r : List UInt8), isPt q = true ∧ l = enc q ++ r ∧ sq a l = (a, q) :: sq (a + psz q) r := by
  by_cases hm : (nxt l).2 = 0
  · rw [sq_bad hl hm] at h
    exact absurd rfl (h (a, -1) (by simp))
  · obtain ⟨a1, a2, a3, a4⟩ := nxt_some hm
    have e : l = enc ((nxt l).1 : Int) ++ l.drop (nxt l).2 := by rw [← a3, List.take_append_drop]
    refine ⟨((nxt l).1 : Int), l.drop (nxt l).2, a1, e, ?_⟩
    rw [sq_step hm, a2]

theorem cutAt_zero {len : Nat} {x : Nat × Int} {xs : List (Nat × Int)} : cutAt 0 len (x :: xs) = x.1 := rfl
theorem cutAt_succ {n len : Nat} {x : Nat × Int} {xs : List (Nat × Int)} : cutAt (n + 1) len (x :: xs) = cutAt n len xs := by
  unfold cutAt; simp
theorem cutAt_nil {n len : Nat} : cutAt n len [] = len := by unfold cutAt; simp

theorem cut_len (f : Nat) : ∀ (a n : Nat) (l : List UInt8), l.length ≤ f → (∀ y ∈ sq a l, y.2 ≠ -1) → a ≤ cutAt n (a + l.length) (sq a l) ∧ cutAt n (a + l.length) (sq a l) ≤ a + l.length ∧
    sq a (l.take (cutAt n (a + l.length) (sq a l) - a)) = (sq a l).take n ∧ l.take (cutAt n (a + l.length) (sq a l) - a) = (((sq a l).take n).map (·.2)).flatMap enc := by
  induction f with
  | zero =>
    intro a n l h _
    have : l = [] := List.length_eq_zero_iff.1 (by omega)
    subst this
    simp [sq_nil, cutAt_nil]
  | succ f ih =>
    intro a n l h hne
    by_cases hl : l = []
    · subst hl
      simp [sq_nil, cutAt_nil]
    · obtain ⟨q, r, hq, e1, e2⟩ := head_enc hl hne
      have hlen : l.length = psz q + r.length := by rw [e1, List.length_append, enc_length]
      have hz := psz_pos hq
      cases n with
      | zero =>
        rw [e2, cutAt_zero]
        simp [sq_nil]
      | succ n =>
        have hne2 : ∀ y ∈ sq (a + psz q) r, y.2 ≠ -1 := fun y hy => hne y (by rw [e2]; simp [hy])
        obtain ⟨i1, i2, i3, i4⟩ := ih (a + psz q) n r (by omega) hne2
        rw [e2, cutAt_succ, show a + l.length = a + psz q + r.length by omega]
        have hc : l.take (cutAt n (a + psz q + r.length) (sq (a + psz q) r) - a) = enc q ++ r.take (cutAt n (a + psz q + r.length) (sq (a + psz q) r) - (a + psz q)) := by
          rw [e1, List.take_append, List.take_of_length_le (by rw [enc_length]; omega), enc_length]
          congr 2
          omega
        refine ⟨by omega, by omega, ?_, ?_⟩
        · rw [hc, sq_encP q hq, i3, List.take_succ_cons]
        · rw [hc, i4, List.take_succ_cons, List.map_cons, List.flatMap_cons]

theorem cutAt_min (a b len : Nat) (xs : List (Nat × Int)) : cutAt b (cutAt a len xs) (xs.take a) = cutAt (min a b) len xs := by
  unfold cutAt
  by_cases h : b < a
  · rw [List.getElem?_take, if_pos h, Nat.min_eq_right (by omega)]
    cases hb : xs[b]? with
    | some x => rfl
    | none =>
      have hl : xs.length ≤ b := List.getElem?_eq_none_iff.1 hb
      rw [List.getElem?_eq_none (by omega)]
  · rw [List.getElem?_eq_none (by rw [List.length_take]; omega), Nat.min_eq_left (by omega)]

theorem okB_of {l : List UInt8} (h : ∀ y ∈ sq 0 l, y.2 ≠ -1) : okB l = true := by
  unfold okB
  rw [beq_iff_eq]
  exact badAt_none h
theorem okB_to {l : List UInt8} (h : okB l = true) : ∀ y ∈ sq 0 l, y.2 ≠ -1 := by
  unfold okB at h
  rw [beq_iff_eq] at h
  exact (badAt_iff _).1 h
end Go.Proofs.YtkecimhohmkkkaaDoor.utf
