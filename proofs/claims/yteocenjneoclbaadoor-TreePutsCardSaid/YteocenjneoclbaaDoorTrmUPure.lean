/- Layer 1, plain mathematics: what a code point's bytes are, what is read at a place, and the row of points that a text has. No program stands in it. Layer 1, plain mathematics: what is cut has the first points, and just these. -/

namespace Go.Proofs.YteocenjneoclbaaDoor.utf

def isPt (p : Int) : Bool := decide (0 ≤ p ∧ p ≤ 1114111 ∧ ¬ (55296 ≤ p ∧ p ≤ 57343))
def psz (p : Int) : Nat := if isPt p = true then (if p ≤ 127 then 1 else if p ≤ 2047 then 2 else if p ≤ 65535 then 3 else 4) else 0
def lsz (c : Nat) : Nat := if c < 128 then 1 else if c < 192 then 0 else if c < 224 then 2 else if c < 240 then 3 else if c < 248 then 4 else 0
def low (c : Nat) : Nat := if c < 128 then c else if c < 192 then 0 else if c < 224 then c - 192 else if c < 240 then c - 224 else c - 240
def cont (b : UInt8) : Bool := decide (128 ≤ b.toNat ∧ b.toNat < 192)
def acc (p : Nat) : List UInt8 → Nat
  | [] => p
  | b :: r => acc (p * 64 + b.toNat % 64) r
def encN (p : Nat) : List UInt8 :=
  if p < 128 then [UInt8.ofNat p]
  else if p < 2048 then [UInt8.ofNat (192 + p / 64), UInt8.ofNat (128 + p % 64)]
  else if p < 65536 then [UInt8.ofNat (224 + p / 4096), UInt8.ofNat (128 + p / 64 % 64), UInt8.ofNat (128 + p % 64)]
  else [UInt8.ofNat (240 + p / 262144), UInt8.ofNat (128 + p / 4096 % 64), UInt8.ofNat (128 + p / 64 % 64), UInt8.ofNat (128 + p % 64)]
def enc (p : Int) : List UInt8 := if isPt p = true then encN p.toNat else []
def nxt (l : List UInt8) : Nat × Nat :=
  match l with
  | [] => (0, 0)
  | c :: r =>
    if lsz c.toNat = 0 ∨ r.length < lsz c.toNat - 1 then (0, 0)
    else if (r.take (lsz c.toNat - 1)).all cont = true then
      if psz (acc (low c.toNat) (r.take (lsz c.toNat - 1))) = lsz c.toNat then (acc (low c.toNat) (r.take (lsz c.toNat - 1)), lsz c.toNat) else (0, 0)
    else (0, 0)

theorem isPt_iff (p : Int) : isPt p = true ↔ (0 ≤ p ∧ p ≤ 1114111 ∧ ¬ (55296 ≤ p ∧ p ≤ 57343)) := by unfold isPt; exact decide_eq_true_iff
theorem psz_le (p : Int) : psz p ≤ 4 := by unfold psz; split <;> (try split) <;> (try split) <;> (try split) <;> omega
theorem psz_zero (p : Int) : psz p = 0 ↔ isPt p = false := by
  unfold psz; cases h : isPt p <;> simp; split <;> (try split) <;> (try split) <;> omega
theorem enc_length (p : Int) : (enc p).length = psz p := by
  unfold enc psz
  cases h : isPt p
  · simp
  · obtain ⟨h1, h2, h3⟩ := (isPt_iff p).1 h
    simp only [if_true, encN]
    by_cases a : p ≤ 127
    · rw [if_pos a, if_pos (by omega)]; rfl
    · rw [if_neg a, if_neg (by omega)]
      by_cases b : p ≤ 2047
      · rw [if_pos b, if_pos (by omega)]; rfl
      · rw [if_neg b, if_neg (by omega)]
        by_cases c : p ≤ 65535
        · rw [if_pos c, if_pos (by omega)]; rfl
        · rw [if_neg c, if_neg (by omega)]; rfl

theorem ofNat_toNat (n : Nat) (h : n < 256) : (UInt8.ofNat n).toNat = n := by
  rw [UInt8.toNat_ofNat']; exact Nat.mod_eq_of_lt h
theorem eq_ofNat (b : UInt8) (n : Nat) (h : b.toNat = n) : b = UInt8.ofNat n := by
  apply UInt8.toNat_inj.1; rw [UInt8.toNat_ofNat', ← h]; exact (Nat.mod_eq_of_lt b.toNat_lt).symm

/-- A point's bytes are read as that point, whatever stands behind them. -/
theorem nxt_enc (p : Int) (rest : List UInt8) (h : isPt p = true) : nxt (enc p ++ rest) = (p.toNat, psz p) := by
  obtain ⟨h1, h2, h3⟩ := (isPt_iff p).1 h
  obtain ⟨q, rfl⟩ := Int.eq_ofNat_of_zero_le h1
  simp only [enc, h, if_true, Int.toNat_natCast, encN]
  have hq : psz ((q : Nat) : Int) = (if q ≤ 127 then 1 else if q ≤ 2047 then 2 else if q ≤ 65535 then 3 else 4) := by
    simp only [psz, h, if_true]
    repeat' split
    all_goals omega
  by_cases a : q < 128
  · rw [if_pos a]
    have e : (UInt8.ofNat q).toNat = q := ofNat_toNat q (by omega)
    have hl : lsz q = 1 := by simp [lsz, a]
    have hw : low q = q := by simp [low, a]
    simp [nxt, e, hl, hw, acc, hq, show q ≤ 127 by omega]
  · rw [if_neg a]
    by_cases b : q < 2048
    · rw [if_pos b]
      have e : (UInt8.ofNat (192 + q / 64)).toNat = 192 + q / 64 := ofNat_toNat _ (by omega)
      have e1 : (UInt8.ofNat (128 + q % 64)).toNat = 128 + q % 64 := ofNat_toNat _ (by omega)
      have hl : lsz (192 + q / 64) = 2 := by unfold lsz; rw [if_neg (by omega), if_neg (by omega), if_pos (by omega)]
      have hw : low (192 + q / 64) = q / 64 := by unfold low; rw [if_neg (by omega), if_neg (by omega), if_pos (by omega)]; omega
      have hc : cont (UInt8.ofNat (128 + q % 64)) = true := by unfold cont; rw [e1]; exact decide_eq_true (by omega)
      have ha : q / 64 * 64 + (128 + q % 64) % 64 = q := by omega
      simp only [nxt, List.cons_append, List.nil_append, e, hl, hw, List.length_cons, List.take_succ_cons, List.take_zero, Nat.reduceSub, List.all_cons, List.all_nil, hc, acc, e1, ha, hq]
      simp [show ¬ q ≤ 127 by omega, show q ≤ 2047 by omega]
    · rw [if_neg b]
      by_cases c : q < 65536
      · rw [if_pos c]
        have e : (UInt8.ofNat (224 + q / 4096)).toNat = 224 + q / 4096 := ofNat_toNat _ (by omega)
        have e1 : (UInt8.ofNat (128 + q % 64)).toNat = 128 + q % 64 := ofNat_toNat _ (by omega)
        have e2 : (UInt8.ofNat (128 + q / 64 % 64)).toNat = 128 + q / 64 % 64 := ofNat_toNat _ (by omega)
        have hl : lsz (224 + q / 4096) = 3 := by unfold lsz; rw [if_neg (by omega), if_neg (by omega), if_neg (by omega), if_pos (by omega)]
        have hw : low (224 + q / 4096) = q / 4096 := by unfold low; rw [if_neg (by omega), if_neg (by omega), if_neg (by omega), if_pos (by omega)]; omega
        have hc : cont (UInt8.ofNat (128 + q % 64)) = true := by unfold cont; rw [e1]; exact decide_eq_true (by omega)
        have hc2 : cont (UInt8.ofNat (128 + q / 64 % 64)) = true := by unfold cont; rw [e2]; exact decide_eq_true (by omega)
        have ha : (q / 4096 * 64 + (128 + q / 64 % 64) % 64) * 64 + (128 + q % 64) % 64 = q := by omega
        simp only [nxt, List.cons_append, List.nil_append, e, hl, hw, List.length_cons, List.take_succ_cons, List.take_zero, Nat.reduceSub, List.all_cons, List.all_nil, hc, hc2, acc, e1, e2, ha, hq]
        simp [show ¬ q ≤ 127 by omega, show ¬ q ≤ 2047 by omega, show q ≤ 65535 by omega]
      · rw [if_neg c]
        have hm : q ≤ 1114111 := by omega
        have e : (UInt8.ofNat (240 + q / 262144)).toNat = 240 + q / 262144 := ofNat_toNat _ (by omega)
        have e1 : (UInt8.ofNat (128 + q % 64)).toNat = 128 + q % 64 := ofNat_toNat _ (by omega)
        have e2 : (UInt8.ofNat (128 + q / 64 % 64)).toNat = 128 + q / 64 % 64 := ofNat_toNat _ (by omega)
        have e3 : (UInt8.ofNat (128 + q / 4096 % 64)).toNat = 128 + q / 4096 % 64 := ofNat_toNat _ (by omega)
        have hl : lsz (240 + q / 262144) = 4 := by unfold lsz; rw [if_neg (by omega), if_neg (by omega), if_neg (by omega), if_neg (by omega), if_pos (by omega)]
        have hw : low (240 + q / 262144) = q / 262144 := by unfold low; rw [if_neg (by omega), if_neg (by omega), if_neg (by omega), if_neg (by omega)]; omega
        have hc : cont (UInt8.ofNat (128 + q % 64)) = true := by unfold cont; rw [e1]; exact decide_eq_true (by omega)
        have hc2 : cont (UInt8.ofNat (128 + q / 64 % 64)) = true := by unfold cont; rw [e2]; exact decide_eq_true (by omega)
        have hc3 : cont (UInt8.ofNat (128 + q / 4096 % 64)) = true := by unfold cont; rw [e3]; exact decide_eq_true (by omega)
        have ha : ((q / 262144 * 64 + (128 + q / 4096 % 64) % 64) * 64 + (128 + q / 64 % 64) % 64) * 64 + (128 + q % 64) % 64 = q := by omega
        simp only [nxt, List.cons_append, List.nil_append, e, hl, hw, List.length_cons, List.take_succ_cons, List.take_zero, Nat.reduceSub, List.all_cons, List.all_nil, hc, hc2, hc3, acc, e1, e2, e3, ha, hq]
        simp [show ¬ q ≤ 127 by omega, show ¬ q ≤ 2047 by omega, show ¬ q ≤ 65535 by omega]

theorem lsz_le (c : Nat) : lsz c ≤ 4 := by unfold lsz; ((repeat' split) <;> omega)

theorem cont_iff (b : UInt8) : cont b = true ↔ (128 ≤ b.toNat ∧ b.toNat < 192) := by simp [cont]

theorem enc_of (p : Nat) (h : isPt p = true) : enc p = encN p := by simp [enc, h]

theorem psz_eq (q : Nat) (h : isPt (q : Int) = true) : psz ((q : Nat) : Int) = (if q ≤ 127 then 1 else if q ≤ 2047 then 2 else if q ≤ 65535 then 3 else 4) := by
  simp only [psz, h, if_true]
  repeat' split
  all_goals omega

/-- What is read at a place is a point, of so many bytes, and these are its bytes. -/
theorem nxt_some {l : List UInt8} (h : (nxt l).2 ≠ 0) :
    isPt ((nxt l).1 : Int) = true ∧ psz ((nxt l).1 : Int) = (nxt l).2 ∧ l.take (nxt l).2 = enc ((nxt l).1 : Int) ∧ (nxt l).2 ≤ l.length := by
  cases l with
  | nil => simp [nxt] at h
  | cons c r =>
    unfold nxt at h ⊢
    by_cases h1 : lsz c.toNat = 0 ∨ r.length < lsz c.toNat - 1
    · simp [h1] at h
    · simp only [h1, if_false] at h ⊢
      by_cases h2 : (r.take (lsz c.toNat - 1)).all cont = true
      · simp only [h2, if_true] at h ⊢
        by_cases h3 : psz (acc (low c.toNat) (r.take (lsz c.toNat - 1))) = lsz c.toNat
        · simp only [h3, if_true] at h ⊢
          have hpt : isPt ((acc (low c.toNat) (r.take (lsz c.toNat - 1)) : Nat) : Int) = true := by
            cases hh : isPt ((acc (low c.toNat) (r.take (lsz c.toNat - 1)) : Nat) : Int)
            · rw [(psz_zero _).2 hh] at h3; omega
            · rfl
          refine ⟨hpt, trivial, ?_, by simp only [List.length_cons]; omega⟩
          rw [enc_of _ hpt]
          rw [psz_eq _ hpt] at h3
          clear h
          have hc := c.toNat_lt
          have hl : lsz c.toNat = 1 ∨ lsz c.toNat = 2 ∨ lsz c.toNat = 3 ∨ lsz c.toNat = 4 := by
            have := lsz_le c.toNat; omega
          rcases hl with e | e | e | e
          · rw [e] at h3 ⊢
            have hr : c.toNat < 128 := by unfold lsz at e; ((repeat' split at e) <;> omega)
            have hw : low c.toNat = c.toNat := by simp [low, hr]
            simp only [Nat.sub_self, List.take_zero, acc, hw, List.take_succ_cons] at h3 ⊢
            simp only [encN, hr, if_true]
            rw [← eq_ofNat c _ rfl]
          · rw [e] at h3 h1 h2 ⊢
            have hr : 192 ≤ c.toNat ∧ c.toNat < 224 := by unfold lsz at e; ((repeat' split at e) <;> omega)
            have hw : low c.toNat = c.toNat - 192 := by unfold low; rw [if_neg (by omega), if_neg (by omega), if_pos (by omega)]
            obtain ⟨b, r, rfl⟩ : ∃ b r', r = b :: r' := by cases r with
              | nil => simp at h1
              | cons b r => exact ⟨b, r, rfl⟩
            simp only [Nat.reduceSub, List.take_succ_cons, List.take_zero, List.all_cons, List.all_nil, Bool.and_true, acc, hw] at h2 h3 ⊢
            have hb := (cont_iff b).1 h2
            have hq : 128 ≤ (c.toNat - 192) * 64 + b.toNat % 64 ∧ (c.toNat - 192) * 64 + b.toNat % 64 < 2048 := by ((repeat' split at h3) <;> omega)
            simp only [encN]
            rw [if_neg (by omega), if_pos (by omega), ← eq_ofNat c _ (by omega), ← eq_ofNat b _ (by omega)]
          · rw [e] at h3 h1 h2 ⊢
            have hr : 224 ≤ c.toNat ∧ c.toNat < 240 := by unfold lsz at e; ((repeat' split at e) <;> omega)
            have hw : low c.toNat = c.toNat - 224 := by unfold low; rw [if_neg (by omega), if_neg (by omega), if_neg (by omega), if_pos (by omega)]
            obtain ⟨b, b2, r, rfl⟩ : ∃ b b2 r', r = b :: b2 :: r' := by
              rcases r with _ | ⟨b, _ | ⟨b2, r⟩⟩
              · simp at h1
              · simp at h1
              · exact ⟨b, b2, r, rfl⟩
            simp only [Nat.reduceSub, List.take_succ_cons, List.take_zero, List.all_cons, List.all_nil, Bool.and_true, Bool.and_eq_true, acc, hw] at h2 h3 ⊢
            have hb := (cont_iff b).1 h2.1
            have hb2 := (cont_iff b2).1 h2.2
            have hq : 2048 ≤ ((c.toNat - 224) * 64 + b.toNat % 64) * 64 + b2.toNat % 64 ∧ ((c.toNat - 224) * 64 + b.toNat % 64) * 64 + b2.toNat % 64 < 65536 := by ((repeat' split at h3) <;> omega)
            simp only [encN]
            rw [if_neg (by omega), if_neg (by omega), if_pos (by omega), ← eq_ofNat c _ (by omega), ← eq_ofNat b _ (by omega), ← eq_ofNat b2 _ (by omega)]
          · rw [e] at h3 h1 h2 ⊢
            have hr : 240 ≤ c.toNat ∧ c.toNat < 248 := by unfold lsz at e; ((repeat' split at e) <;> omega)
            have hw : low c.toNat = c.toNat - 240 := by unfold low; rw [if_neg (by omega), if_neg (by omega), if_neg (by omega), if_neg (by omega)]
            obtain ⟨b, b2, b3, r, rfl⟩ : ∃ b b2 b3 r', r = b :: b2 :: b3 :: r' := by
              rcases r with _ | ⟨b, _ | ⟨b2, _ | ⟨b3, r⟩⟩⟩
              · simp at h1
              · simp at h1
              · simp at h1
              · exact ⟨b, b2, b3, r, rfl⟩
            simp only [Nat.reduceSub, List.take_succ_cons, List.take_zero, List.all_cons, List.all_nil, Bool.and_true, Bool.and_eq_true, acc, hw] at h2 h3 ⊢
            have hb := (cont_iff b).1 h2.1
            have hb2 := (cont_iff b2).1 h2.2.1
            have hb3 := (cont_iff b3).1 h2.2.2
            have hq : 65536 ≤ (((c.toNat - 240) * 64 + b.toNat % 64) * 64 + b2.toNat % 64) * 64 + b3.toNat % 64 := by ((repeat' split at h3) <;> omega)
            simp only [encN]
            rw [if_neg (by omega), if_neg (by omega), if_neg (by omega), ← eq_ofNat c _ (by omega), ← eq_ofNat b _ (by omega), ← eq_ofNat b2 _ (by omega), ← eq_ofNat b3 _ (by omega)]
        · simp [h3] at h
      · simp [h2] at h

theorem nxt_zero {l : List UInt8} (h : (nxt l).2 = 0) : nxt l = (0, 0) := by
  cases l with
  | nil => rfl
  | cons c r =>
    unfold nxt at h ⊢
    by_cases h1 : lsz c.toNat = 0 ∨ r.length < lsz c.toNat - 1
    · simp only [h1, if_true]
    · simp only [h1, if_false] at h ⊢
      by_cases h2 : (r.take (lsz c.toNat - 1)).all cont = true
      · simp only [h2, if_true] at h ⊢
        by_cases h3 : psz (acc (low c.toNat) (r.take (lsz c.toNat - 1))) = lsz c.toNat
        · simp only [h3, if_true] at h
          omega
        · simp only [h3, if_false]
      · simp [h2]

theorem nxt_shape {c : UInt8} {r : List UInt8} (h : (nxt (c :: r)).2 ≠ 0) :
    lsz c.toNat ≠ 0 ∧ nxt (c :: r) = (acc (low c.toNat) (r.take (lsz c.toNat - 1)), lsz c.toNat) ∧ (r.take (lsz c.toNat - 1)).all cont = true ∧ lsz c.toNat - 1 ≤ r.length := by
  unfold nxt at h ⊢
  by_cases h1 : lsz c.toNat = 0 ∨ r.length < lsz c.toNat - 1
  · simp [h1] at h
  · simp only [h1, if_false] at h ⊢
    by_cases h2 : (r.take (lsz c.toNat - 1)).all cont = true
    · simp only [h2, if_true] at h ⊢
      by_cases h3 : psz (acc (low c.toNat) (r.take (lsz c.toNat - 1))) = lsz c.toNat
      · simp only [h3, if_true]
        exact ⟨by omega, trivial, trivial, by omega⟩
      · simp [h3] at h
    · simp [h2] at h

/-! What the document's own reading comes to: so many bytes by the first one, a number by reckoning, held against that number's bytes. -/
def rn (c : Nat) : Nat := if c < 192 then 1 else if c < 224 then 2 else if c < 240 then 3 else 4
def rlow (c : Nat) : Nat := if c < 192 then c else if c < 224 then c - 192 else if c < 240 then c - 224 else c - 240
def racc (p : Int) : List UInt8 → Int
  | [] => p
  | b :: r => racc (p * 64 + b.toNat - 128) r

theorem racc_acc (l : List UInt8) : ∀ p : Nat, l.all cont = true → racc p l = acc p l := by
  induction l with
  | nil => intro p _; rfl
  | cons b r ih =>
    intro p h
    simp only [List.all_cons, Bool.and_eq_true] at h
    have hb := (cont_iff b).1 h.1
    simp only [racc, acc]
    rw [← ih _ h.2]
    congr 1
    omega

theorem lsz_rn {c : Nat} (hc : c < 256) (h : lsz c ≠ 0) : rn c = lsz c ∧ rlow c = low c := by
  unfold lsz at h
  unfold rn rlow lsz low
  constructor
  · ((repeat' split at h) <;> (repeat' split)) <;> omega
  · ((repeat' split at h) <;> (repeat' split)) <;> omega

theorem ref_short {c : UInt8} {r : List UInt8} (h : r.length + 1 < rn c.toNat) : nxt (c :: r) = (0, 0) := by
  apply nxt_zero
  rcases Decidable.em ((nxt (c :: r)).2 = 0) with e | e
  · exact e
  · obtain ⟨h1, _, _, h4⟩ := nxt_shape e
    have := (lsz_rn c.toNat_lt h1).1
    omega

theorem ref_yes {c : UInt8} {r : List UInt8} {q : Int} (hl : rn c.toNat ≤ r.length + 1) (h1 : isPt q = true) (h2 : enc q = (c :: r).take (rn c.toNat)) :
    nxt (c :: r) = (q.toNat, rn c.toNat) := by
  have h := nxt_enc q ((c :: r).drop (rn c.toNat)) h1
  rw [h2, List.take_append_drop] at h
  rw [h]
  have e := enc_length q
  rw [h2, List.length_take] at e
  simp only [List.length_cons] at e
  rw [← e]
  congr 1
  omega

theorem ref_no {c : UInt8} {r : List UInt8} (h : ¬ (isPt (racc (rlow c.toNat) (r.take (rn c.toNat - 1))) = true ∧ enc (racc (rlow c.toNat) (r.take (rn c.toNat - 1))) = (c :: r).take (rn c.toNat))) :
    nxt (c :: r) = (0, 0) := by
  apply nxt_zero
  rcases Decidable.em ((nxt (c :: r)).2 = 0) with e | e
  · exact e
  · exfalso
    obtain ⟨h1, h2, h3, h4⟩ := nxt_shape e
    obtain ⟨a1, a2⟩ := lsz_rn c.toNat_lt h1
    obtain ⟨b1, b2, b3, b4⟩ := nxt_some e
    rw [h2] at b1 b2 b3 b4
    apply h
    rw [a1, a2, racc_acc _ _ h3]
    exact ⟨b1, b3.symm⟩

/-! A text's row: each point with its place; the first place at which none begins is told last, with -1. -/
def sqF : Nat → Nat → List UInt8 → List (Nat × Int)
  | 0, _, _ => []
  | f + 1, a, l => if l = [] then [] else if (nxt l).2 = 0 then [(a, -1)] else (a, ((nxt l).1 : Int)) :: sqF f (a + (nxt l).2) (l.drop (nxt l).2)
def sq (a : Nat) (l : List UInt8) : List (Nat × Int) := sqF l.length a l

theorem sqF_any (f : Nat) : ∀ (f' a : Nat) (l : List UInt8), l.length ≤ f → l.length ≤ f' → sqF f a l = sqF f' a l := by
  induction f with
  | zero =>
    intro f' a l h _
    have : l = [] := List.length_eq_zero_iff.1 (by omega)
    subst this
    cases f' <;> simp [sqF]
  | succ f ih =>
    intro f' a l h h'
    cases f' with
    | zero =>
      have : l = [] := List.length_eq_zero_iff.1 (by omega)
      subst this
      simp [sqF]
    | succ f' =>
      unfold sqF
      by_cases e : l = []
      · simp [e]
      · rw [if_neg e, if_neg e]
        by_cases n : (nxt l).2 = 0
        · rw [if_pos n, if_pos n]
        · rw [if_neg n, if_neg n, ih f' _ _ (by rw [List.length_drop]; omega) (by rw [List.length_drop]; omega)]
theorem sq_nil (a : Nat) : sq a [] = [] := rfl
theorem sq_bad {a : Nat} {l : List UInt8} (h : l ≠ []) (hn : (nxt l).2 = 0) : sq a l = [(a, -1)] := by
  cases l with
  | nil => exact absurd rfl h
  | cons c r => simp only [sq, List.length_cons, sqF, if_neg h, if_pos hn]
theorem nxt_nil : nxt [] = (0, 0) := rfl
theorem sq_step {a : Nat} {l : List UInt8} (hn : (nxt l).2 ≠ 0) : sq a l = (a, ((nxt l).1 : Int)) :: sq (a + (nxt l).2) (l.drop (nxt l).2) := by
  cases l with
  | nil => exact absurd rfl hn
  | cons c r =>
    have h : (c :: r) ≠ [] := by simp
    unfold sq
    rw [List.length_cons, sqF, if_neg h, if_neg hn]
    congr 1
    apply sqF_any
    · rw [List.length_drop]; simp only [List.length_cons]; omega
    · omega
theorem nxt_le (l : List UInt8) : (nxt l).2 ≤ l.length := by
  rcases Decidable.em ((nxt l).2 = 0) with e | e
  · omega
  · exact (nxt_some e).2.2.2
theorem nxt_le4 (l : List UInt8) : (nxt l).2 ≤ 4 := by
  rcases Decidable.em ((nxt l).2 = 0) with e | e
  · omega
  · rw [← (nxt_some e).2.1]; exact psz_le _

def badAt : List (Nat × Int) → Int
  | [] => -1
  | x :: r => if x.2 = -1 then (x.1 : Int) else badAt r
theorem badAt_none {xs : List (Nat × Int)} (h : ∀ x ∈ xs, x.2 ≠ -1) : badAt xs = -1 := by
  induction xs with
  | nil => rfl
  | cons x r ih => rw [badAt, if_neg (h x (by simp))]; exact ih fun y hy => h y (by simp [hy])
theorem badAt_some {ini : List (Nat × Int)} {last : Nat × Int} (rest : List (Nat × Int)) (h : ∀ x ∈ ini, x.2 ≠ -1) (hl : last.2 = -1) : badAt (ini ++ last :: rest) = last.1 := by
  induction ini with
  | nil => simp [badAt, hl]
  | cons x r ih => rw [List.cons_append, badAt, if_neg (h x (by simp))]; exact ih fun y hy => h y (by simp [hy])
theorem badAt_iff (xs : List (Nat × Int)) : badAt xs = -1 ↔ ∀ x ∈ xs, x.2 ≠ -1 := by
  constructor
  · induction xs with
    | nil => intro _ x hx; cases hx
    | cons x r ih =>
      intro h y hy
      rw [badAt] at h
      by_cases e : x.2 = -1
      · rw [if_pos e] at h; omega
      · rw [if_neg e] at h
        rcases List.mem_cons.1 hy with rfl | hy
        · exact e
        · exact ih h y hy
  · exact badAt_none
def okB (l : List UInt8) : Bool := badAt (sq 0 l) == -1
def cutAt (n len : Nat) (xs : List (Nat × Int)) : Nat := match xs[n]? with
  | some x => x.1
  | none => len

end Go.Proofs.YteocenjneoclbaaDoor.utf
namespace Go.Proofs.YteocenjneoclbaaDoor.utf

theorem psz_pos {p : Int} (h : isPt p = true) : psz p ≠ 0 := fun e => by rw [psz_zero, h] at e; cases e
theorem sq_encP (p : Int) (h : isPt p = true) (a : Nat) (rest : List UInt8) : sq a (enc p ++ rest) = (a, p) :: sq (a + psz p) rest := by
  have hn := nxt_enc p rest h
  rw [sq_step (by rw [hn]; exact psz_pos h), hn]
  have h0 := ((isPt_iff p).1 h).1
  simp only [Int.toNat_of_nonneg h0]
  rw [List.drop_append_of_le_length (by rw [enc_length]; exact Nat.le_refl _), ← enc_length p, List.drop_length, List.nil_append]
/-- A text without a bad place begins with its first point's bytes. -/
theorem head_enc {a : Nat} {l : List UInt8} (hl : l ≠ []) (h : ∀ y ∈ sq a l, y.2 ≠ -1) :
    ∃ (q : Int) (r : List UInt8), isPt q = true ∧ l = enc q ++ r ∧ sq a l = (a, q) :: sq (a + psz q) r := by
  by_cases hm : (nxt l).2 = 0
  · rw [sq_bad hl hm] at h
    exact absurd rfl (h (a, -1) (by simp))
  · obtain ⟨a1, a2, a3, a4⟩ := nxt_some hm
    have e : l = enc ((nxt l).1 : Int) ++ l.drop (nxt l).2 := by rw [← a3, List.take_append_drop]
    refine ⟨((nxt l).1 : Int), l.drop (nxt l).2, a1, e, ?_⟩
    rw [sq_step hm, a2]

theorem cutAt_zero {len : Nat} {x : Nat × Int} {xs : List (Nat × Int)} : cutAt 0 len (x :: xs) = x.1 := rfl
theorem cutAt_succ {n len : Nat} {x : Nat × Int} {xs : List (Nat × Int)} : cutAt (n + 1) len (x :: xs) = cutAt n len xs := by
  unfold cutAt; simp
theorem cutAt_nil {n len : Nat} : cutAt n len [] = len := by unfold cutAt; simp

theorem cut_len (f : Nat) : ∀ (a n : Nat) (l : List UInt8), l.length ≤ f → (∀ y ∈ sq a l, y.2 ≠ -1) → a ≤ cutAt n (a + l.length) (sq a l) ∧ cutAt n (a + l.length) (sq a l) ≤ a + l.length ∧
    sq a (l.take (cutAt n (a + l.length) (sq a l) - a)) = (sq a l).take n ∧ l.take (cutAt n (a + l.length) (sq a l) - a) = (((sq a l).take n).map (·.2)).flatMap enc := by
  induction f with
  | zero =>
    intro a n l h _
    have : l = [] := List.length_eq_zero_iff.1 (by omega)
    subst this
    simp [sq_nil, cutAt_nil]
  | succ f ih =>
    intro a n l h hne
    by_cases hl : l = []
    · subst hl
      simp [sq_nil, cutAt_nil]
    · obtain ⟨q, r, hq, e1, e2⟩ := head_enc hl hne
      have hlen : l.length = psz q + r.length := by rw [e1, List.length_append, enc_length]
      have hz := psz_pos hq
      cases n with
      | zero =>
        rw [e2, cutAt_zero]
        simp [sq_nil]
      | succ n =>
        have hne2 : ∀ y ∈ sq (a + psz q) r, y.2 ≠ -1 := fun y hy => hne y (by rw [e2]; simp [hy])
        obtain ⟨i1, i2, i3, i4⟩ := ih (a + psz q) n r (by omega) hne2
        rw [e2, cutAt_succ, show a + l.length = a + psz q + r.length by omega]
        have hc : l.take (cutAt n (a + psz q + r.length) (sq (a + psz q) r) - a) = enc q ++ r.take (cutAt n (a + psz q + r.length) (sq (a + psz q) r) - (a + psz q)) := by
          rw [e1, List.take_append, List.take_of_length_le (by rw [enc_length]; omega), enc_length]
          congr 2
          omega
        refine ⟨by omega, by omega, ?_, ?_⟩
        · rw [hc, sq_encP q hq, i3, List.take_succ_cons]
        · rw [hc, i4, List.take_succ_cons, List.map_cons, List.flatMap_cons]

theorem cutAt_min (a b len : Nat) (xs : List (Nat × Int)) : cutAt b (cutAt a len xs) (xs.take a) = cutAt (min a b) len xs := by
  unfold cutAt
  by_cases h : b < a
  · rw [List.getElem?_take, if_pos h, Nat.min_eq_right (by omega)]
    cases hb : xs[b]? with
    | some x => rfl
    | none =>
      have hl : xs.length ≤ b := List.getElem?_eq_none_iff.1 hb
      rw [List.getElem?_eq_none (by omega)]
  · rw [List.getElem?_eq_none (by rw [List.length_take]; omega), Nat.min_eq_left (by omega)]

theorem okB_of {l : List UInt8} (h : ∀ y ∈ sq 0 l, y.2 ≠ -1) : okB l = true := by
  unfold okB
  rw [beq_iff_eq]
  exact badAt_none h
theorem okB_to {l : List UInt8} (h : okB l = true) : ∀ y ∈ sq 0 l, y.2 ≠ -1 := by
  unfold okB at h
  rw [beq_iff_eq] at h
  exact (badAt_iff _).1 h
end Go.Proofs.YteocenjneoclbaaDoor.utf
