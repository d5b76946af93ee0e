/- Layer 2: the walks of DigitsTurns and DigitsSmall. -/
import Derived.Test.YthnafenkpcnlbaaDigAwake
import Derived.Test.YthnafenkpcnlbaaDigRef
namespace Go.Proofs.Ythnafenkpcnlbaa.dig
open Go.RowKit

theorem small_mul {a b : Int} (ha : -2147483648 ≤ a ∧ a ≤ 2147483647) (hb : -2147483648 ≤ b ∧ b ≤ 2147483647) : -4611686018427387904 ≤ a * b ∧ a * b ≤ 4611686018427387904 := by
  have h1 : (a * b).natAbs = a.natAbs * b.natAbs := Int.natAbs_mul a b
  have h2 : a.natAbs * b.natAbs ≤ 2147483648 * 2147483648 := Nat.mul_le_mul (by omega) (by omega)
  omega
set_option maxHeartbeats 1000000 in
theorem small_walk (a b : Int) (ha : -2147483648 ≤ a ∧ a ≤ 2147483647) (hb : -2147483648 ≤ b ∧ b ≤ 2147483647) (w : World) :
    Calls Try.prog 8 #[.int .i32 a, .int .i32 b] w fun e w' => e = .returned (.bool true) ∧ Below w.heap.size w w' := by
  have hm := small_mul ha hb
  have ia : inI a := by unfold inI; omega
  have ib : inI b := by unfold inI; omega
  have Is := Lib.hid (show inI (a + b) by unfold inI; omega)
  have Id := Lib.hid (show inI (a - b) by unfold inI; omega)
  have Im := Lib.hid (show inI (a * b) by unfold inI; omega)
  have In := Lib.hid (show inI (-a) by unfold inI; omega)
  go_enter Try.func8, Try.ntmps8
  go_wp2_with fail
  refine (awake_any _).mono ?_
  rintro e w' ⟨rfl, rfl⟩
  go_wp2_with fail
  refine (Add_any a b ia ib _).mono ?_
  rintro e w' ⟨rfl, rfl⟩
  rw [tV_in Is.out, tE_in Is.out]
  go_wp2_with fail
  refine (Sub_any a b ia ib _).mono ?_
  rintro e w' ⟨rfl, rfl⟩
  rw [tV_in Id.out, tE_in Id.out]
  go_wp2_with fail
  refine (Mul_any a b ia ib _).mono ?_
  rintro e w' ⟨rfl, rfl⟩
  rw [tV_in Im.out, tE_in Im.out]
  go_wp2_with fail
  refine (Neg_any a ia _).mono ?_
  rintro e w' ⟨rfl, rfl⟩
  rw [tV_in In.out, tE_in In.out]
  go_wp2
  go_ret
  exact ⟨rfl, Below.refl _ _⟩

/-- How the rest lies to the divisor, and its sign to the number's. -/
theorem rest_facts (a b : Int) (ha : inI a) (hb : inI b) (h0 : b ≠ 0) (h1 : ¬ (a = -9223372036854775808 ∧ b = -1)) :
    inI (a.tdiv b * b) ∧ a.tdiv b * b + a.tmod b = a ∧ (a.tmod b < 0 → a < 0) ∧ (0 < a.tmod b → ¬ a < 0) ∧ (0 < b → -b < a.tmod b ∧ a.tmod b < b) ∧ (b < 0 → b < a.tmod b ∧ a.tmod b < -b) := by
  have e : a.tdiv b * b + a.tmod b = a := by rw [Int.mul_comm]; exact Int.mul_tdiv_add_tmod a b
  have hm := tmod_sgn a b
  have hp : 0 < amt b := by unfold amt; split <;> omega
  have n1 := Int.emod_nonneg (amt a) (show amt b ≠ 0 by omega)
  have n2 := Int.emod_lt_of_pos (amt a) hp
  have n3 : amt a % amt b ≤ amt a := by
    have hna : 0 ≤ amt a := (amt_bd ha).1
    by_cases h : amt a < amt b
    · rw [Int.emod_eq_of_lt hna h]; exact Int.le_refl _
    · omega
  generalize amt a % amt b = r at hm n1 n2 n3
  have hx : (a < 0 ∧ a.tmod b = -r ∧ amt a = -a) ∨ (¬ a < 0 ∧ a.tmod b = r ∧ amt a = a) := by
    by_cases h : a < 0
    · left; rw [decide_eq_true h] at hm; exact ⟨h, hm, amt_neg h⟩
    · right; rw [decide_eq_false h] at hm; exact ⟨h, hm, amt_pos h⟩
  have hy : (b < 0 ∧ amt b = -b) ∨ (¬ b < 0 ∧ amt b = b) := by
    by_cases h : b < 0
    · exact .inl ⟨h, amt_neg h⟩
    · exact .inr ⟨h, amt_pos h⟩
  unfold inI at ha hb ⊢
  generalize a.tdiv b * b = q at e
  generalize a.tmod b = m at *
  refine ⟨by omega, e, by omega, by omega, by omega, by omega⟩

theorem mV_eq {a b : Int} (h : b ≠ 0) : mV a b = a.tmod b := if_neg h
theorem mE_eq {a b : Int} (h : b ≠ 0) : mE a b = 0 := if_neg h
theorem dV_eq {a b : Int} (ha : inI a) (h : b ≠ 0) (h1 : ¬ (a = -9223372036854775808 ∧ b = -1)) : dV a b = a.tdiv b := by
  unfold dV; rw [if_neg h, tV_in (tdiv_in ha h h1)]
theorem dE_eq {a b : Int} (ha : inI a) (h : b ≠ 0) (h1 : ¬ (a = -9223372036854775808 ∧ b = -1)) : dE a b = 0 := by
  unfold dE; rw [if_neg h, tE_in (tdiv_in ha h h1)]
theorem wrap_min : wrap64 9223372036854775808 = -9223372036854775808 := by decide +kernel
theorem ov1 : dV (-9223372036854775808) (-1) = 0 := by decide +kernel
theorem ov2 : dE (-9223372036854775808) (-1) = 16 := by decide +kernel
theorem ov3 : mV (-9223372036854775808) (-1) = 0 := by decide +kernel
theorem ov4 : mE (-9223372036854775808) (-1) = 0 := by decide +kernel
set_option maxRecDepth 100000 in
set_option maxHeartbeats 4000000 in
theorem turns_walk (a b : Int) (ha : inI a) (hb : inI b) (w : World) :
    Calls Try.prog 7 #[.int .i64 a, .int .i64 b] w fun e w' => e = .returned (.bool true) ∧ Below w.heap.size w w' := by
  have Hc := Lib.hid (Int.add_comm b a)
  have Hm := Lib.hid (Int.mul_comm b a)
  have Ha := Lib.hid ha
  have Hb := Lib.hid hb
  go_enter Try.func7, Try.ntmps7
  go_wp2_with fail
  refine (awake_any _).mono ?_
  rintro e w' ⟨rfl, rfl⟩
  go_wp2_with fail
  refine (Add_any a b ha hb _).mono ?_
  rintro e w' ⟨rfl, rfl⟩
  go_wp2_with fail
  refine (Add_any b a hb ha _).mono ?_
  rintro e w' ⟨rfl, rfl⟩
  rw [Hc.out]
  go_wp2_with fail
  refine (Mul_any a b ha hb _).mono ?_
  rintro e w' ⟨rfl, rfl⟩
  go_wp2_with fail
  refine (Mul_any b a hb ha _).mono ?_
  rintro e w' ⟨rfl, rfl⟩
  rw [Hm.out]
  by_cases hs : inI (a + b)
  case' pos =>
    rw [tV_in hs, tE_in hs]
    have Hs := Lib.hid hs
    clear hs
    have Hd := Lib.hid (show a + b - b = a by omega)
    go_wp2_with fail
    refine (Sub_any (a + b) b Hs.out hb _).mono ?_
    rintro e w' ⟨rfl, rfl⟩
    rw [Hd.out, tV_in Ha.out, tE_in Ha.out]
    go_wp2_with fail
  case' neg =>
    rw [tV_out hs, tE_out hs]
    clear hs
    go_wp2_with fail
  all_goals
    refine (Div_any a b ha hb _).mono ?_
    rintro e w' ⟨rfl, rfl⟩
    go_wp2_with fail
    refine (Mod_any a b _).mono ?_
    rintro e w' ⟨rfl, rfl⟩
    by_cases h0 : b = 0
    · subst h0
      rw [dV_zero, dE_zero, mV_zero, mE_zero]
      go_wp2
      go_ret
      exact ⟨rfl, Below.refl _ _⟩
    have hb0 : (b == 0) = false := by simpa using h0
    by_cases h1 : a = -9223372036854775808 ∧ b = -1
    · obtain ⟨rfl, rfl⟩ := h1
      rw [ov1, ov2, ov3, ov4]
      go_wp2
      go_ret
      exact ⟨rfl, Below.refl _ _⟩
    obtain ⟨ip, hs, h2, h3, h4, h5⟩ := rest_facts a b ha hb h0 h1
    have id := tdiv_in ha h0 h1
    have im := tmod_in (a := a) hb h0
    rw [dV_eq ha h0 h1, dE_eq ha h0 h1, mV_eq h0, mE_eq h0]
    generalize a.tdiv b = d at *
    generalize a.tmod b = m at *
    have Hp := Lib.hid hs
    have Ip := Lib.hid ip
    clear hs ip h1
    go_wp2_with fail
    refine (Mul_any d b id hb _).mono ?_
    rintro e w' ⟨rfl, rfl⟩
    rw [tV_in Ip.out, tE_in Ip.out]
    go_wp2_with fail
    refine (Add_any (d * b) m Ip.out im _).mono ?_
    rintro e w' ⟨rfl, rfl⟩
    rw [Hp.out, tV_in Ha.out, tE_in Ha.out]
    unfold inI at ha hb
    clear id im h0
    by_cases hm : m < 0
    · have ha0 : a < 0 := h2 hm
      have hm0 : (m == 0) = false := by simp; omega
      clear h2 h3
      by_cases hb1 : 0 < b
      · have h6 := (h4 hb1).1
        clear h4 h5
        go_wp2
        go_ret
        exact ⟨rfl, Below.refl _ _⟩
      · have hb2 : b < 0 := by
          have : b ≠ 0 := by simpa using hb0
          omega
        have h7 := (h5 hb2).1
        clear h4 h5
        by_cases hbm : b = -9223372036854775808
        · subst hbm
          have hw := wrap_min
          go_wp2
          go_ret
          exact ⟨rfl, Below.refl _ _⟩
        · have hbm' : -9223372036854775808 < b := by omega
          clear hbm
          go_wp2
          go_ret
          exact ⟨rfl, Below.refl _ _⟩
    · by_cases hm1 : m = 0
      · subst hm1
        clear h2 h3
        by_cases hb1 : 0 < b
        · clear h4 h5
          go_wp2
          go_ret
          exact ⟨rfl, Below.refl _ _⟩
        · have hb2 : b < 0 := by
            have : b ≠ 0 := by simpa using hb0
            omega
          clear h4 h5
          by_cases hbm : b = -9223372036854775808
          · subst hbm
            have hw := wrap_min
            go_wp2
            go_ret
            exact ⟨rfl, Below.refl _ _⟩
          · have hbm' : -9223372036854775808 < b := by omega
            clear hbm
            go_wp2
            go_ret
            exact ⟨rfl, Below.refl _ _⟩
      · have hm2 : 0 < m := by omega
        have ha0 : decide (a < 0) = false := decide_eq_false (by have := h3 hm2; omega)
        have hm0 : (m == 0) = false := by simp; omega
        clear h2 h3 hm1
        by_cases hb1 : 0 < b
        · have h6 := (h4 hb1).2
          clear h4 h5
          go_wp2
          go_ret
          exact ⟨rfl, Below.refl _ _⟩
        · have hb2 : b < 0 := by
            have : b ≠ 0 := by simpa using hb0
            omega
          have h7 := (h5 hb2).2
          clear h4 h5
          by_cases hbm : b = -9223372036854775808
          · subst hbm
            have hw := wrap_min
            go_wp2
            go_ret
            exact ⟨rfl, Below.refl _ _⟩
          · have hbm' : -9223372036854775808 < b := by omega
            clear hbm
            go_wp2
            go_ret
            exact ⟨rfl, Below.refl _ _⟩
end Go.Proofs.Ythnafenkpcnlbaa.dig
