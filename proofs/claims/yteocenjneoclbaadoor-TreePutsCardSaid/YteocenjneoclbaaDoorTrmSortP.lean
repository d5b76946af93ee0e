/- Layer 4: rows of fields in the order of their keys, plain. -/
import Derived.Lib.Bytealg
import Derived.Test.YteocenjneoclbaaDoorTrmBldPre
namespace Go.Proofs.YteocenjneoclbaaDoor.tre
open Go.RowKit Go.Shelf

/-- A field in its row: its key, and its other cells. -/
structure El where
  k : ByteArray
  kind : Int
  int : Int
  text : ByteArray
  p : Sl
  q : Sl
def cellsE (e : El) : List Value := [.string e.k, .int .i64 e.kind, .int .i64 e.int, .string e.text, .slice e.p.a e.p.n e.p.c, .slice e.q.a e.q.n e.q.c]
def cmpB (a b : ByteArray) : Int := Go.Lib.compareBytes a.data.toList b.data.toList
def ltB (a b : ByteArray) : Prop := cmpB a b < 0
theorem cb_self : ∀ a : List UInt8, Go.Lib.compareBytes a a = 0
  | [] => rfl
  | a :: xs => by
    unfold Go.Lib.compareBytes
    rw [if_neg (UInt8.lt_irrefl a), if_neg (UInt8.lt_irrefl a)]
    exact cb_self xs
theorem cb_swap : ∀ a b : List UInt8, Go.Lib.compareBytes b a = - Go.Lib.compareBytes a b
  | [], [] => rfl
  | [], _ :: _ => rfl
  | _ :: _, [] => rfl
  | a :: xs, b :: ys => by
    unfold Go.Lib.compareBytes
    by_cases h : a < b
    · rw [if_pos h, if_neg (UInt8.lt_asymm h), if_pos h]; rfl
    · by_cases h2 : b < a
      · simp [h, h2]
      · rw [if_neg h, if_neg h2, if_neg h2, if_neg h]
        exact cb_swap xs ys
theorem cb_zero : ∀ a b : List UInt8, Go.Lib.compareBytes a b = 0 → a = b
  | [], [], _ => rfl
  | [], _ :: _, h => by simp [Go.Lib.compareBytes] at h
  | _ :: _, [], h => by simp [Go.Lib.compareBytes] at h
  | a :: xs, b :: ys, h => by
    unfold Go.Lib.compareBytes at h
    by_cases h1 : a < b
    · rw [if_pos h1] at h; cases h
    · by_cases h2 : b < a
      · rw [if_neg h1, if_pos h2] at h; cases h
      · rw [if_neg h1, if_neg h2] at h
        obtain rfl : a = b := by
          rw [UInt8.lt_iff_toNat_lt] at h1 h2
          exact UInt8.toNat_inj.1 (by omega)
        rw [cb_zero xs ys h]
theorem cb_trans : ∀ a b c : List UInt8, Go.Lib.compareBytes a b < 0 → Go.Lib.compareBytes b c < 0 → Go.Lib.compareBytes a c < 0
  | [], [], _, h, _ => by simp [Go.Lib.compareBytes] at h
  | [], _ :: _, [], _, h => by simp [Go.Lib.compareBytes] at h
  | [], _ :: _, _ :: _, _, _ => by simp [Go.Lib.compareBytes]
  | _ :: _, [], _, h, _ => by simp [Go.Lib.compareBytes] at h
  | _ :: _, _ :: _, [], _, h => by simp [Go.Lib.compareBytes] at h
  | a :: xs, b :: ys, c :: zs, h1, h2 => by
    unfold Go.Lib.compareBytes at h1 h2 ⊢
    simp only [UInt8.lt_iff_toNat_lt] at *
    by_cases e1 : a.toNat < b.toNat
    · by_cases e2 : b.toNat < c.toNat
      · rw [if_pos (by omega)]; decide
      · by_cases e3 : c.toNat < b.toNat
        · rw [if_neg e2, if_pos e3] at h2; exact absurd h2 (by decide)
        · rw [if_pos (by omega)]; decide
    · by_cases e4 : b.toNat < a.toNat
      · rw [if_neg e1, if_pos e4] at h1; exact absurd h1 (by decide)
      · rw [if_neg e1, if_neg e4] at h1
        by_cases e2 : b.toNat < c.toNat
        · rw [if_pos (by omega)]; decide
        · by_cases e3 : c.toNat < b.toNat
          · rw [if_neg e2, if_pos e3] at h2; exact absurd h2 (by decide)
          · rw [if_neg e2, if_neg e3] at h2
            rw [if_neg (by omega), if_neg (by omega)]
            exact cb_trans xs ys zs h1 h2
theorem cmpB_range (a b : ByteArray) : -1 ≤ cmpB a b ∧ cmpB a b ≤ 1 := by
  unfold cmpB
  generalize a.data.toList = x
  generalize b.data.toList = y
  induction x generalizing y with
  | nil => cases y <;> simp [Go.Lib.compareBytes]
  | cons u x ih =>
    cases y with
    | nil => simp [Go.Lib.compareBytes]
    | cons v y =>
      unfold Go.Lib.compareBytes
      split
      · decide
      · split
        · decide
        · exact ih y
theorem ltB_irrefl (a : ByteArray) : ¬ ltB a a := by unfold ltB cmpB; rw [cb_self]; decide
theorem ltB_trans {a b c : ByteArray} (h : ltB a b) (k : ltB b c) : ltB a c := cb_trans _ _ _ h k
theorem ltB_asymm {a b : ByteArray} (h : ltB a b) : ¬ ltB b a := fun k => ltB_irrefl a (ltB_trans h k)
theorem ltB_total {a b : ByteArray} (h : a ≠ b) : ltB a b ∨ ltB b a := by
  unfold ltB cmpB
  rw [cb_swap a.data.toList b.data.toList]
  have h0 : Go.Lib.compareBytes a.data.toList b.data.toList ≠ 0 := fun e => h (by
    have := cb_zero _ _ e
    exact ByteArray.ext (Array.toList_inj.1 this))
  omega

/-- Two places changed round. -/
def swp (l : List El) (i j : Nat) : List El := match l[i]?, l[j]? with | some x, some y => (l.set i y).set j x | _, _ => l
theorem swp_len (l : List El) (i j : Nat) : (swp l i j).length = l.length := by
  unfold swp
  split <;> simp
theorem swp_at (l : List El) {i j : Nat} (hi : i < l.length) (hj : j < l.length) (p : Nat) : (swp l i j)[p]? = if p = j then l[i]? else if p = i then l[j]? else l[p]? := by
  unfold swp
  rw [List.getElem?_eq_getElem hi, List.getElem?_eq_getElem hj]
  simp only [List.getElem?_set]
  by_cases h1 : p = j
  · subst h1
    rw [if_pos rfl, if_pos rfl, if_pos (by simpa using hj)]
  · rw [if_neg h1, if_neg (fun e => h1 e.symm)]
    by_cases h2 : p = i
    · subst h2
      rw [if_pos rfl, if_pos rfl, if_pos hi]
    · rw [if_neg h2, if_neg (fun e => h2 e.symm)]
theorem swp_perm (l : List El) (i j : Nat) : List.Perm (swp l i j) l := by
  unfold swp
  split
  · rename_i x y hx hy
    obtain ⟨hi, rfl⟩ := List.getElem?_eq_some_iff.1 hx
    obtain ⟨hj, rfl⟩ := List.getElem?_eq_some_iff.1 hy
    exact List.set_set_perm hi hj
  · exact List.Perm.refl _
/-- The same fields, only those from a on and ahead of b in another order. -/
structure Mix (a b : Nat) (l l' : List El) : Prop where
  len : l'.length = l.length
  out : ∀ p, p < a ∨ b ≤ p → l'[p]? = l[p]?
  perm : List.Perm l' l
  inn : ∀ p, a ≤ p → p < b → ∃ q, a ≤ q ∧ q < b ∧ l'[p]? = l[q]?
theorem Mix.refl (a b : Nat) (l : List El) : Mix a b l l := ⟨rfl, fun _ _ => rfl, List.Perm.refl _, fun p h1 h2 => ⟨p, h1, h2, rfl⟩⟩
theorem Mix.trans {a b : Nat} {l l' l'' : List El} (h : Mix a b l l') (k : Mix a b l' l'') : Mix a b l l'' :=
  ⟨k.len.trans h.len, fun p hp => (k.out p hp).trans (h.out p hp), k.perm.trans h.perm, fun p h1 h2 => by
    obtain ⟨q, h3, h4, h5⟩ := k.inn p h1 h2
    obtain ⟨r, h6, h7, h8⟩ := h.inn q h3 h4
    exact ⟨r, h6, h7, h5.trans h8⟩⟩
theorem Mix.mono {a b a' b' : Nat} {l l' : List El} (h : Mix a b l l') (ha : a' ≤ a) (hb : b ≤ b') : Mix a' b' l l' :=
  ⟨h.len, fun p hp => h.out p (by omega), h.perm, fun p h1 h2 => by
    by_cases hp : p < a ∨ b ≤ p
    · exact ⟨p, h1, h2, h.out p hp⟩
    · obtain ⟨q, h3, h4, h5⟩ := h.inn p (by omega) (by omega)
      exact ⟨q, by omega, by omega, h5⟩⟩
theorem Mix.swp {a b : Nat} (l : List El) {i j : Nat} (h1 : a ≤ i) (h2 : i < b) (h3 : a ≤ j) (h4 : j < b) (hb : b ≤ l.length) : Mix a b l (swp l i j) :=
  ⟨swp_len l i j, fun p hp => by rw [swp_at l (by omega) (by omega), if_neg (by omega), if_neg (by omega)], swp_perm l i j, fun p h5 h6 => by
    rw [swp_at l (by omega) (by omega)]
    split
    · exact ⟨i, h1, h2, rfl⟩
    · split
      · exact ⟨j, h3, h4, rfl⟩
      · exact ⟨p, h5, h6, rfl⟩⟩
/-- Those from a on and ahead of b stand in the order of their keys. -/
def Srt (l : List El) (a b : Nat) : Prop := ∀ p q x y, a ≤ p → p < q → q < b → l[p]? = some x → l[q]? = some y → ltB x.k y.k
/-- No key is there twice. -/
def Dist (l : List El) : Prop := (l.map El.k).Nodup
theorem Dist.perm {l l' : List El} (h : Dist l) (hp : List.Perm l' l) : Dist l' := (hp.map El.k).symm.nodup h
theorem Dist.ne {l : List El} (h : Dist l) {p q : Nat} {x y : El} (hpq : p ≠ q) (hx : l[p]? = some x) (hy : l[q]? = some y) : x.k ≠ y.k := fun e => by
  obtain ⟨hp, rfl⟩ := List.getElem?_eq_some_iff.1 hx
  obtain ⟨hq, rfl⟩ := List.getElem?_eq_some_iff.1 hy
  have := (List.nodup_iff_pairwise_ne.1 h)
  exact hpq ((List.getElem_inj h (h₀ := by simpa using hp) (h₁ := by simpa using hq)).1 (by simpa using e))
theorem Srt.mono {l : List El} {a b a' b' : Nat} (h : Srt l a b) (ha : a ≤ a') (hb : b' ≤ b) : Srt l a' b' := fun p q x y h1 h2 h3 hx hy => h p q x y (by omega) h2 (by omega) hx hy
theorem Srt.same {l l' : List El} {a b : Nat} (h : Srt l a b) (hs : ∀ p, a ≤ p → p < b → l'[p]? = l[p]?) : Srt l' a b := fun p q x y h1 h2 h3 hx hy => h p q x y h1 h2 h3 ((hs p h1 (by omega)).symm.trans hx) ((hs q (by omega) h3).symm.trans hy)
theorem Srt.shift {l l' : List El} {a b a' : Nat} (h : Srt l a b) (hs : ∀ i, i < b - a → l'[a' + i]? = l[a + i]?) : Srt l' a' (a' + (b - a)) := fun p q x y h1 h2 h3 hx hy => by
  have e1 := hs (p - a') (by omega)
  have e2 := hs (q - a') (by omega)
  rw [show a' + (p - a') = p by omega] at e1
  rw [show a' + (q - a') = q by omega] at e2
  exact h (a + (p - a')) (a + (q - a')) x y (by omega) (by omega) (by omega) (e1.symm.trans hx) (e2.symm.trans hy)
end Go.Proofs.YteocenjneoclbaaDoor.tre
