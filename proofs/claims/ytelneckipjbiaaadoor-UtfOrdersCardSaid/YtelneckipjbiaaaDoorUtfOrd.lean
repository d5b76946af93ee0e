/- UtfOrders: of two valid texts the less one by bytes is the less one by points. -/
import Derived.Test.YtelneckipjbiaaaDoorUtfBackLaw
namespace Go.Proofs.YtelneckipjbiaaaDoor.utf
open Go.RowKit

theorem bl_lt {a b : Nat} (h : a < b) (hb : b < 256) (x y : List UInt8) : Op.bytesLess (UInt8.ofNat a :: x) (UInt8.ofNat b :: y) = true ∧ Op.bytesLess (UInt8.ofNat b :: y) (UInt8.ofNat a :: x) = false := by
  have ha := ofNat_toNat a (by omega)
  have hb' := ofNat_toNat b hb
  have h1 : UInt8.ofNat a < UInt8.ofNat b := by rw [UInt8.lt_iff_toNat_lt, ha, hb']; exact h
  have h2 : ¬ UInt8.ofNat b < UInt8.ofNat a := by rw [UInt8.lt_iff_toNat_lt, ha, hb']; omega
  have h3 : ¬ UInt8.ofNat b = UInt8.ofNat a := by intro e; have := congrArg UInt8.toNat e; rw [ha, hb'] at this; omega
  simp [Op.bytesLess, h1, h2, h3]
theorem bl_eq (c : UInt8) (x y : List UInt8) : Op.bytesLess (c :: x) (c :: y) = Op.bytesLess x y := by
  have h : ¬ c < c := by rw [UInt8.lt_iff_toNat_lt]; omega
  simp [Op.bytesLess, h]
theorem bl_same (a x y : List UInt8) : Op.bytesLess (a ++ x) (a ++ y) = Op.bytesLess x y := by
  induction a with
  | nil => rfl
  | cons c a ih => rw [List.cons_append, List.cons_append, bl_eq, ih]
def BlLt (a b : List UInt8) : Prop := Op.bytesLess a b = true ∧ Op.bytesLess b a = false
theorem BlLt.cons {a b : List UInt8} (c : UInt8) (h : BlLt a b) : BlLt (c :: a) (c :: b) := ⟨(bl_eq c a b).trans h.1, (bl_eq c b a).trans h.2⟩

theorem encN_lt (p q : Nat) (h : p < q) (hq : q ≤ 1114111) (x y : List UInt8) : BlLt (encN p ++ x) (encN q ++ y) := by
  unfold encN
  by_cases a1 : p < 128
  · rw [if_pos a1]
    by_cases b1 : q < 128
    · rw [if_pos b1]
      exact bl_lt (by omega) (by omega) _ _
    · rw [if_neg b1]
      by_cases b2 : q < 2048
      · rw [if_pos b2]
        exact bl_lt (by omega) (by omega) _ _
      · rw [if_neg b2]
        by_cases b3 : q < 65536
        · rw [if_pos b3]
          exact bl_lt (by omega) (by omega) _ _
        · rw [if_neg b3]
          exact bl_lt (by omega) (by omega) _ _
  · rw [if_neg a1]
    by_cases a2 : p < 2048
    · rw [if_pos a2]
      rw [if_neg (show ¬ q < 128 by omega)]
      by_cases b2 : q < 2048
      · rw [if_pos b2]
        by_cases e0 : p / 64 = q / 64
        · rw [e0]
          refine BlLt.cons _ ?_
          exact bl_lt (by omega) (by omega) _ _
        · exact bl_lt (by omega) (by omega) _ _
      · rw [if_neg b2]
        by_cases b3 : q < 65536
        · rw [if_pos b3]
          exact bl_lt (by omega) (by omega) _ _
        · rw [if_neg b3]
          exact bl_lt (by omega) (by omega) _ _
    · rw [if_neg a2]
      by_cases a3 : p < 65536
      · rw [if_pos a3]
        rw [if_neg (show ¬ q < 128 by omega)]
        rw [if_neg (show ¬ q < 2048 by omega)]
        by_cases b3 : q < 65536
        · rw [if_pos b3]
          by_cases e0 : p / 4096 = q / 4096
          · rw [e0]
            refine BlLt.cons _ ?_
            by_cases e1 : p / 64 % 64 = q / 64 % 64
            · rw [e1]
              refine BlLt.cons _ ?_
              exact bl_lt (by omega) (by omega) _ _
            · exact bl_lt (by omega) (by omega) _ _
          · exact bl_lt (by omega) (by omega) _ _
        · rw [if_neg b3]
          exact bl_lt (by omega) (by omega) _ _
      · rw [if_neg a3]
        rw [if_neg (show ¬ q < 128 by omega)]
        rw [if_neg (show ¬ q < 2048 by omega)]
        rw [if_neg (show ¬ q < 65536 by omega)]
        by_cases e0 : p / 262144 = q / 262144
        · rw [e0]
          refine BlLt.cons _ ?_
          by_cases e1 : p / 4096 % 64 = q / 4096 % 64
          · rw [e1]
            refine BlLt.cons _ ?_
            by_cases e2 : p / 64 % 64 = q / 64 % 64
            · rw [e2]
              refine BlLt.cons _ ?_
              exact bl_lt (by omega) (by omega) _ _
            · exact bl_lt (by omega) (by omega) _ _
          · exact bl_lt (by omega) (by omega) _ _
        · exact bl_lt (by omega) (by omega) _ _

def lexL : List Int → List Int → Bool
  | [], [] => false
  | [], _ :: _ => true
  | _ :: _, [] => false
  | p :: P, q :: Q => if p = q then lexL P Q else decide (p < q)

theorem enc_ne {p : Int} (h : isPt p = true) : ∃ c r, enc p = c :: r := by
  cases e : enc p with
  | nil =>
    have := enc_length p
    rw [e] at this
    exact absurd this.symm (psz_pos h)
  | cons c r => exact ⟨c, r, rfl⟩

theorem lex_bytes : ∀ (P Q : List Int), (∀ p ∈ P, isPt p = true) → (∀ q ∈ Q, isPt q = true) → Op.bytesLess (P.flatMap enc) (Q.flatMap enc) = lexL P Q := by
  intro P
  induction P with
  | nil =>
    intro Q _ hQ
    cases Q with
    | nil => rfl
    | cons q Q =>
      obtain ⟨c, r, e⟩ := enc_ne (hQ q (by simp))
      rw [List.flatMap_nil, List.flatMap_cons, e]
      rfl
  | cons p P ih =>
    intro Q hP hQ
    have hp := hP p (by simp)
    cases Q with
    | nil =>
      obtain ⟨c, r, e⟩ := enc_ne hp
      rw [List.flatMap_nil, List.flatMap_cons, e]
      rfl
    | cons q Q =>
      have hq := hQ q (by simp)
      rw [List.flatMap_cons, List.flatMap_cons]
      by_cases e : p = q
      · subst e
        rw [bl_same, ih Q (fun z hz => hP z (by simp [hz])) (fun z hz => hQ z (by simp [hz]))]
        simp [lexL]
      · obtain ⟨p1, p2, _⟩ := (isPt_iff p).1 hp
        obtain ⟨q1, q2, _⟩ := (isPt_iff q).1 hq
        obtain ⟨p', rfl⟩ := Int.eq_ofNat_of_zero_le p1
        obtain ⟨q', rfl⟩ := Int.eq_ofNat_of_zero_le q1
        rw [enc_of p' hp, enc_of q' hq]
        show _ = (if ((p' : Nat) : Int) = (q' : Nat) then _ else _)
        rw [if_neg e]
        rcases Nat.lt_or_ge p' q' with h | h
        · rw [(encN_lt p' q' h (by omega) _ _).1, decide_eq_true (by omega)]
        · rw [(encN_lt q' p' (by omega) (by omega) _ _).2, decide_eq_false (by omega)]

theorem lex_break : ∀ (k : Nat) (P Q : List Int) (p q : Int), P.take k = Q.take k → P[k]? = some p → Q[k]? = some q → p ≠ q → lexL P Q = decide (p < q) := by
  intro k
  induction k with
  | zero =>
    intro P Q p q _ hp hq hne
    cases P with
    | nil => simp at hp
    | cons a P =>
      cases Q with
      | nil => simp at hq
      | cons b Q =>
        simp at hp hq
        subst hp hq
        simp [lexL, hne]
  | succ k ih =>
    intro P Q p q ht hp hq hne
    cases P with
    | nil => simp at hp
    | cons a P =>
      cases Q with
      | nil => simp at hq
      | cons b Q =>
        simp only [List.take_succ_cons, List.cons.injEq] at ht
        obtain ⟨rfl, ht⟩ := ht
        simp at hp hq
        simp only [lexL, if_true]
        exact ih P Q p q ht hp hq hne
theorem lex_end : ∀ (k : Nat) (P Q : List Int), P.take k = Q.take k → (k = P.length ∨ k = Q.length) → k ≤ P.length → k ≤ Q.length → lexL P Q = decide (P.length < Q.length) := by
  intro k
  induction k with
  | zero =>
    intro P Q _ h _ _
    cases P with
    | nil => cases Q <;> simp [lexL]
    | cons a P =>
      cases Q with
      | nil => simp [lexL]
      | cons b Q => simp at h
  | succ k ih =>
    intro P Q ht h h1 h2
    cases P with
    | nil => simp at h1
    | cons a P =>
      cases Q with
      | nil => simp at h2
      | cons b Q =>
        simp only [List.take_succ_cons, List.cons.injEq] at ht
        obtain ⟨rfl, ht⟩ := ht
        simp only [List.length_cons] at h h1 h2
        simp only [lexL, if_true, List.length_cons]
        rw [ih P Q ht (by omega) (by omega) (by omega)]
        simp
end Go.Proofs.YtelneckipjbiaaaDoor.utf
