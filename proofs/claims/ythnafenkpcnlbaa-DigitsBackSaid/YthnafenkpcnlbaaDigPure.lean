/- Layer 2: plain mathematics: whole numbers that 64 bits with a sign hold; decimal digits. Nothing of the program. -/
namespace Go.Proofs.Ythnafenkpcnlbaa.dig

/-- A number of 64 bits with a sign. -/
def inI (x : Int) : Prop := -9223372036854775808 ≤ x ∧ x ≤ 9223372036854775807
instance (x : Int) : Decidable (inI x) := by unfold inI; infer_instance
theorem inI_iff (x : Int) : inI x ↔ -9223372036854775808 ≤ x ∧ x ≤ 9223372036854775807 := Iff.rfl
/-- What is told of a number: itself and OK, or 0 and ErrOver. -/
def tV (x : Int) : Int := if inI x then x else 0
def tE (x : Int) : Int := if inI x then 0 else 16
theorem tV_in {x : Int} (h : inI x) : tV x = x := if_pos h
theorem tE_in {x : Int} (h : inI x) : tE x = 0 := if_pos h
theorem tV_out {x : Int} (h : ¬ inI x) : tV x = 0 := if_neg h
theorem tE_out {x : Int} (h : ¬ inI x) : tE x = 16 := if_neg h
theorem tV_wf (x : Int) : inI (tV x) := by
  unfold tV; split
  · assumption
  · unfold inI; omega

/-- A number's amount. -/
def amt (x : Int) : Int := if x < 0 then -x else x
theorem amt_neg {x : Int} (h : x < 0) : amt x = -x := if_pos h
theorem amt_pos {x : Int} (h : ¬ x < 0) : amt x = x := if_neg h
theorem amt_bd {x : Int} (h : inI x) : 0 ≤ amt x ∧ amt x ≤ 9223372036854775808 := by
  unfold inI at h; unfold amt; split <;> omega
/-- An amount with a sign. -/
def sgn (m : Bool) (n : Int) : Int := bif m then -n else n

/-- Quotient and rest, as Div and Mod tell them. -/
def dV (a b : Int) : Int := if b = 0 then 0 else tV (a.tdiv b)
def dE (a b : Int) : Int := if b = 0 then 17 else tE (a.tdiv b)
def mV (a b : Int) : Int := if b = 0 then 0 else a.tmod b
def mE (_a b : Int) : Int := if b = 0 then 17 else 0

theorem tdiv_bd {a : Int} (b : Int) (h : inI a) : -9223372036854775808 ≤ a.tdiv b ∧ a.tdiv b ≤ 9223372036854775808 := by
  have hle := Int.natAbs_tdiv_le_natAbs a b
  unfold inI at h
  omega
theorem tdiv_in {a b : Int} (h : inI a) (hb : b ≠ 0) (hn : ¬ (a = -9223372036854775808 ∧ b = -1)) : inI (a.tdiv b) := by
  have hbd := tdiv_bd b h
  refine ⟨hbd.1, ?_⟩
  by_cases hm : b = -1
  · subst hm
    rw [Int.tdiv_neg, Int.tdiv_one]
    unfold inI at h; omega
  · by_cases h1 : b = 1
    · subst h1
      rw [Int.tdiv_one]
      exact h.2
    · have e := Int.natAbs_tdiv a b
      have h2 : 2 ≤ b.natAbs := by omega
      have h3 : a.natAbs / b.natAbs ≤ a.natAbs / 2 := Nat.div_le_div_left h2 (by omega)
      have h4 : (a.tdiv b).natAbs ≤ a.natAbs / 2 := by rw [e]; exact h3
      unfold inI at h
      omega
theorem tdiv_sgn (a b : Int) : a.tdiv b = sgn (decide (a < 0) != decide (b < 0)) (amt a / amt b) := by
  unfold sgn amt
  by_cases ha : a < 0 <;> by_cases hb : b < 0 <;> simp only [ha, hb, decide_true, decide_false, if_true, if_false]
  · have e := Int.neg_tdiv_neg (a := a) (b := b)
    rw [← e, Int.tdiv_eq_ediv_of_nonneg (by omega)]; rfl
  · have e := Int.neg_tdiv a b
    have : a.tdiv b = -((-a).tdiv b) := by omega
    rw [this, Int.tdiv_eq_ediv_of_nonneg (by omega)]; rfl
  · have e := Int.tdiv_neg a b
    have : a.tdiv b = -(a.tdiv (-b)) := by omega
    rw [this, Int.tdiv_eq_ediv_of_nonneg (by omega)]; rfl
  · rw [Int.tdiv_eq_ediv_of_nonneg (by omega)]; rfl
theorem tmod_sgn (a b : Int) : a.tmod b = sgn (decide (a < 0)) (amt a % amt b) := by
  unfold sgn amt
  by_cases ha : a < 0 <;> by_cases hb : b < 0 <;> simp only [ha, hb, decide_true, decide_false, if_true, if_false, cond_true, cond_false]
  · have e := Int.neg_tmod (a := a) (b := b)
    have e2 := Int.tmod_neg (-a) b
    rw [show a.tmod b = -((-a).tmod b) by omega, ← e2, Int.tmod_eq_emod_of_nonneg (by omega)]
  · have e := Int.neg_tmod (a := a) (b := b)
    rw [show a.tmod b = -((-a).tmod b) by omega, Int.tmod_eq_emod_of_nonneg (by omega)]
  · have e2 := Int.tmod_neg a b
    rw [← e2, Int.tmod_eq_emod_of_nonneg (by omega)]
  · rw [Int.tmod_eq_emod_of_nonneg (by omega)]

/-! ### Digits -/
def isD (c : UInt8) : Bool := decide (48 ≤ c.toNat ∧ c.toNat ≤ 57)
def dval (c : UInt8) : Nat := c.toNat - 48
def dig1 (d : Nat) : UInt8 := UInt8.ofNat (48 + d)
/-- The number that digits are. -/
def valr : List UInt8 → Nat → Nat
  | [], v => v
  | c :: l, v => valr l (v * 10 + dval c)
def val (l : List UInt8) : Nat := valr l 0
theorem valr_append (l m : List UInt8) (v : Nat) : valr (l ++ m) v = valr m (valr l v) := by
  induction l generalizing v with
  | nil => rfl
  | cons c l ih => exact ih _
theorem val_snoc (l : List UInt8) (c : UInt8) : val (l ++ [c]) = val l * 10 + dval c := valr_append l [c] 0
theorem valr_ge (l : List UInt8) (v : Nat) : v ≤ valr l v := by
  induction l generalizing v with
  | nil => exact Nat.le_refl _
  | cons c l ih => exact Nat.le_trans (by omega) (ih (v * 10 + dval c))
theorem val_le_append (l m : List UInt8) : val l ≤ val (l ++ m) := by
  unfold val; rw [valr_append]; exact valr_ge _ _

/-- The decimal digits of a number. -/
def digs (n : Nat) : List UInt8 := if _h : n < 10 then [dig1 n] else digs (n / 10) ++ [dig1 (n % 10)]
theorem digs_small {n : Nat} (h : n < 10) : digs n = [dig1 n] := by rw [digs, dif_pos h]
theorem digs_big {n : Nat} (h : ¬ n < 10) : digs n = digs (n / 10) ++ [dig1 (n % 10)] := by rw [digs, dif_neg h]
theorem dval_dig1 {d : Nat} (h : d < 10) : dval (dig1 d) = d := by
  unfold dval dig1
  rw [UInt8.toNat_ofNat_of_lt' (by show 48 + d < 256; omega)]; omega
theorem isD_dig1 {d : Nat} (h : d < 10) : isD (dig1 d) = true := by
  unfold isD dig1
  rw [UInt8.toNat_ofNat_of_lt' (by show 48 + d < 256; omega)]
  simp; omega
theorem isD_iff (c : UInt8) : isD c = true ↔ 48 ≤ c.toNat ∧ c.toNat ≤ 57 := by unfold isD; simp
theorem dig1_dval {c : UInt8} (h : isD c = true) : dig1 (dval c) = c := by
  rw [isD_iff] at h
  unfold dig1 dval
  rw [show 48 + (c.toNat - 48) = c.toNat by omega]
  exact UInt8.ofNat_toNat
theorem dval_lt {c : UInt8} (h : isD c = true) : dval c < 10 := by
  rw [isD_iff] at h; unfold dval; omega
theorem digs_ne (n : Nat) : digs n ≠ [] := by
  by_cases h : n < 10
  · rw [digs_small h]; simp
  · rw [digs_big h]; simp
theorem digs_all (n : Nat) : (digs n).all isD = true := by
  induction n using Nat.strongRecOn with
  | ind n ih =>
    by_cases h : n < 10
    · rw [digs_small h]; simp [isD_dig1 h]
    · rw [digs_big h, List.all_append, ih (n / 10) (by omega)]
      simp [isD_dig1 (show n % 10 < 10 by omega)]
theorem val_digs (n : Nat) : val (digs n) = n := by
  induction n using Nat.strongRecOn with
  | ind n ih =>
    by_cases h : n < 10
    · rw [digs_small h]
      show 0 * 10 + dval (dig1 n) = n
      rw [dval_dig1 h]; omega
    · rw [digs_big h, val_snoc, ih (n / 10) (by omega), dval_dig1 (by omega)]; omega
theorem digs_len (k n : Nat) (h : n < 10 ^ (k + 1)) : (digs n).length ≤ k + 1 := by
  induction k generalizing n with
  | zero => rw [digs_small (by simpa using h)]; simp
  | succ k ih =>
    by_cases hn : n < 10
    · rw [digs_small hn]; simp
    · rw [digs_big hn, List.length_append]
      have := ih (n / 10) (by rw [Nat.pow_succ] at h; omega)
      simp only [List.length_cons, List.length_nil]; omega
/-- No digit 0 ahead, but of 0. -/
theorem digs_head (n : Nat) : (digs n).head? = some 48 → n = 0 := by
  induction n using Nat.strongRecOn with
  | ind n ih =>
    by_cases h : n < 10
    · rw [digs_small h]
      intro e
      have e' : dig1 n = 48 := by simpa using e
      have := dval_dig1 h
      rw [e'] at this
      exact this.symm
    · rw [digs_big h]
      intro e
      have hne := digs_ne (n / 10)
      have : (digs (n / 10)).head? = some 48 := by
        cases hd : digs (n / 10) with
        | nil => exact absurd hd hne
        | cons c l => rw [hd] at e; simpa using e
      have := ih (n / 10) (by omega) this
      omega
/-- Digits with none 0 ahead are the digits of their number. -/
theorem digs_val (l : List UInt8) (ha : l.all isD = true) (hne : l ≠ []) (hz : l.head? = some 48 → l.length ≤ 1) : digs (val l) = l := by
  suffices h : ∀ k (l : List UInt8), l.length = k → l.all isD = true → l ≠ [] → (l.head? = some 48 → l.length ≤ 1) → digs (val l) = l from h _ l rfl ha hne hz
  intro k
  induction k with
  | zero => intro l hl _ hne; exact absurd (List.length_eq_zero_iff.1 hl) hne
  | succ k ih =>
    intro l hl ha hne hz
    rcases List.eq_nil_or_concat l with rfl | ⟨m, c, rfl⟩
    · exact absurd rfl hne
    · rw [List.concat_eq_append] at hl ha hz ⊢
      rw [List.all_append] at ha
      simp only [List.all_cons, List.all_nil, Bool.and_true, Bool.and_eq_true] at ha
      rw [val_snoc]
      by_cases hm : m = []
      · subst hm
        show digs (0 * 10 + dval c) = _
        have := dval_lt ha.2
        rw [digs_small (by omega), show 0 * 10 + dval c = dval c by omega, dig1_dval ha.2]; rfl
      · have hz' : m.head? = some 48 → m.length ≤ 1 := by
          intro e
          have : (m ++ [c]).head? = some 48 := by
            cases m with
            | nil => exact absurd rfl hm
            | cons d m => simpa using e
          have := hz this
          simp only [List.length_append, List.length_cons, List.length_nil] at this
          omega
        have hml : m.length = k := by simpa using hl
        have e := ih m hml ha.1 hm hz'
        have hd := dval_lt ha.2
        have hpos : 0 < val m := by
          rcases Nat.eq_zero_or_pos (val m) with h0 | h0
          · exfalso
            rw [h0, digs_small (by omega)] at e
            have h48 : m.head? = some 48 := by rw [← e]; rfl
            have hz2 : (m ++ [c]).head? = some 48 := by rw [← e]; rfl
            have := hz hz2
            rw [← e] at this
            simp at this
          · exact h0
        rw [digs_big (by omega), show (val m * 10 + dval c) / 10 = val m by omega, show (val m * 10 + dval c) % 10 = dval c by omega, e, dig1_dval ha.2]

/-! ### A number's text -/
def txt (n : Int) : List UInt8 := if n < 0 then 45 :: digs n.natAbs else digs n.natAbs
/-- Is a minus ahead; what is behind it. -/
def hasM (l : List UInt8) : Bool := l.head? == some 45
def behindM (l : List UInt8) : List UInt8 := if hasM l then l.tail else l
/-- The form of a number's text, but for its size. -/
def formB (m : Bool) (t : List UInt8) : Bool := !t.isEmpty && t.all isD && !(t.head? == some 48 && (m || decide (1 < t.length)))
def numOf (l : List UInt8) : Int := sgn (hasM l) (val (behindM l))
def pV (l : List UInt8) : Int := if formB (hasM l) (behindM l) = true then tV (numOf l) else 0
def pE (l : List UInt8) : Int := if formB (hasM l) (behindM l) = true then tE (numOf l) else 10

theorem form_split (m : Bool) (t : List UInt8) : formB m t = true ↔ t ≠ [] ∧ t.all isD = true ∧ (t.head? = some 48 → m = false ∧ t.length ≤ 1) := by
  unfold formB
  simp only [Bool.and_eq_true, Bool.not_eq_true', List.isEmpty_eq_false_iff, Bool.and_eq_false_iff, Bool.or_eq_false_iff, decide_eq_false_iff_not, beq_eq_false_iff_ne, ne_eq]
  constructor
  · rintro ⟨⟨a, b⟩, c⟩
    exact ⟨a, b, fun h => by rcases c with c | c; · exact absurd h c
                             · exact ⟨c.1, by omega⟩⟩
  · rintro ⟨a, b, c⟩
    refine ⟨⟨a, b⟩, ?_⟩
    by_cases h : t.head? = some 48
    · exact .inr ⟨(c h).1, by have := (c h).2; omega⟩
    · exact .inl h
theorem digs_no45 (n : Nat) : hasM (digs n) = false := by
  have ha := digs_all n
  unfold hasM
  cases h : digs n with
  | nil => rfl
  | cons c l =>
    rw [h] at ha
    simp only [List.all_cons, Bool.and_eq_true, isD_iff] at ha
    simp only [List.head?_cons, beq_eq_false_iff_ne, ne_eq, Option.some.injEq]
    rintro rfl
    have := ha.1.1
    simp at this
theorem txt_hasM (n : Int) : hasM (txt n) = decide (n < 0) := by
  unfold txt
  split
  · rename_i h; rw [decide_eq_true h]; rfl
  · rename_i h; rw [decide_eq_false h]; exact digs_no45 _
theorem txt_behind (n : Int) : behindM (txt n) = digs n.natAbs := by
  have h := txt_hasM n
  unfold behindM
  rw [h]
  unfold txt
  split <;> rename_i hn <;> simp at hn
  · rw [if_pos (by omega)]; rfl
  · rw [if_neg (by omega)]
theorem txt_form (n : Int) : formB (hasM (txt n)) (behindM (txt n)) = true := by
  rw [txt_behind, txt_hasM, form_split]
  refine ⟨digs_ne _, digs_all _, fun h => ?_⟩
  have h0 := digs_head _ h
  have : n = 0 := by omega
  subst this
  exact ⟨rfl, by decide +kernel⟩
theorem txt_num (n : Int) : numOf (txt n) = n := by
  unfold numOf sgn
  rw [txt_behind, txt_hasM, val_digs]
  by_cases h : n < 0
  · simp [h]; omega
  · simp [h]; omega
theorem txt_parse (n : Int) (h : inI n) : pV (txt n) = n ∧ pE (txt n) = 0 := by
  unfold pV pE
  rw [if_pos (txt_form n), if_pos (txt_form n), txt_num, tV_in h, tE_in h]
  exact ⟨rfl, rfl⟩
/-- What is parsed is its number's text. -/
theorem txt_of_parse (l : List UInt8) (h : pE l = 0) : inI (pV l) ∧ txt (pV l) = l := by
  unfold pE at h
  split at h
  · rename_i hf
    have hi : inI (numOf l) := by
      unfold tE at h
      split at h
      · assumption
      · exact absurd h (by omega)
    have e : pV l = numOf l := by unfold pV; rw [if_pos hf, tV_in hi]
    rw [e]
    refine ⟨hi, ?_⟩
    obtain ⟨a, b, c⟩ := (form_split _ _).1 hf
    have hd := digs_val (behindM l) b a (fun h => (c h).2)
    unfold numOf sgn txt
    cases hm : hasM l with
    | false =>
      have hb : behindM l = l := by unfold behindM; rw [hm]; rfl
      simp only [cond_false]
      rw [if_neg (by omega), Int.natAbs_natCast, hd, hb]
    | true =>
      have hb : behindM l = l.tail := by unfold behindM; rw [hm]; rfl
      have h45 : l.head? = some 45 := by unfold hasM at hm; simpa using hm
      have hl : l = 45 :: l.tail := by
        cases l with
        | nil => cases h45
        | cons x l => simp at h45; rw [h45]; rfl
      have hpos : 0 < val (behindM l) := by
        rcases Nat.eq_zero_or_pos (val (behindM l)) with h0 | h0
        · exfalso
          rw [h0, digs_small (by omega)] at hd
          have h48 : (behindM l).head? = some 48 := by rw [← hd]; rfl
          have := (c h48).1
          rw [hm] at this
          cases this
        · exact h0
      simp only [cond_true]
      rw [if_pos (by omega), Int.natAbs_neg, Int.natAbs_natCast, hd, hb]
      exact hl.symm
  · exact absurd h (by omega)
theorem pV_zero (l : List UInt8) (h : pE l ≠ 0) : pV l = 0 := by
  unfold pV pE at *
  split
  · rename_i hf
    rw [if_pos hf] at h
    unfold tE tV at *
    split
    · rename_i hi; rw [if_pos hi] at h; exact absurd rfl h
    · rfl
  · rfl
theorem pV_in (l : List UInt8) : inI (pV l) := by
  unfold pV; split
  · exact tV_wf _
  · unfold inI; omega
end Go.Proofs.Ythnafenkpcnlbaa.dig
