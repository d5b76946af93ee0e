/- Layer 2: the contracts of digits' functions that only reckon: sizeOf, signed, behind, Add, Sub, Neg, Div, Mod, Mul. -/
import Derived.Test.YthnafenkpcnlbaaDigPure
import Derived.Test.YthnafenkpcnlbaaDigShelf
import Derived.WalkKit
import Derived.WalkSpells
import Derived.WalkLawsBesides
import Derived.Deep.QuietTactic
import Derived.BigQuiet
import Derived.Lib.Hide
import Derived.IntWalk
namespace Go.Proofs.Ythnafenkpcnlbaa.dig
open Go.RowKit

theorem ret_int {k : IntKind} {a b : Int} (h : a = b) : Ending.returned (.int k a) = .returned (.int k b) := by rw [h]
theorem ret2 {k j : IntKind} {a b c d : Int} (h : a = b) (h' : c = d) : Ending.returned (.tuple #[.int k a, .int j c]) = .returned (.tuple #[.int k b, .int j d]) := by rw [h, h']

set_option maxHeartbeats 400000 in
theorem Add_any (a b : Int) (ha : inI a) (hb : inI b) (w : World) :
    Calls Try.prog 15 #[.int .i64 a, .int .i64 b] w fun e w' => e = .returned (.tuple #[.int .i64 (tV (a + b)), .int .i64 (tE (a + b))]) ∧ w = w' := by
  unfold inI at ha hb
  by_cases h1 : 0 < b
  · by_cases h2 : 9223372036854775807 - b < a
    · have hn : ¬ inI (a + b) := by unfold inI; omega
      have H1 := Lib.hid (tV_out hn)
      have H2 := Lib.hid (tE_out hn)
      clear hn
      go_enter Try.func15, Try.ntmps15
      go_wp2
      go_ret2
      exact ⟨ret2 H1.out.symm H2.out.symm, rfl⟩
    · have hn : inI (a + b) := by unfold inI; omega
      have H1 := Lib.hid (tV_in hn)
      have H2 := Lib.hid (tE_in hn)
      unfold inI at hn
      go_enter Try.func15, Try.ntmps15
      go_wp2
      go_ret2
      exact ⟨ret2 H1.out.symm H2.out.symm, rfl⟩
  · by_cases h3 : b < 0
    · by_cases h2 : a < -9223372036854775808 - b
      · have hn : ¬ inI (a + b) := by unfold inI; omega
        have H1 := Lib.hid (tV_out hn)
        have H2 := Lib.hid (tE_out hn)
        clear hn
        go_enter Try.func15, Try.ntmps15
        go_wp2
        go_ret2
        exact ⟨ret2 H1.out.symm H2.out.symm, rfl⟩
      · have hn : inI (a + b) := by unfold inI; omega
        have H1 := Lib.hid (tV_in hn)
        have H2 := Lib.hid (tE_in hn)
        unfold inI at hn
        go_enter Try.func15, Try.ntmps15
        go_wp2
        go_ret2
        exact ⟨ret2 H1.out.symm H2.out.symm, rfl⟩
    · have hn : inI (a + b) := by unfold inI; omega
      have H1 := Lib.hid (tV_in hn)
      have H2 := Lib.hid (tE_in hn)
      unfold inI at hn
      go_enter Try.func15, Try.ntmps15
      go_wp2
      go_ret2
      exact ⟨ret2 H1.out.symm H2.out.symm, rfl⟩
set_option maxHeartbeats 400000 in
theorem Sub_any (a b : Int) (ha : inI a) (hb : inI b) (w : World) :
    Calls Try.prog 17 #[.int .i64 a, .int .i64 b] w fun e w' => e = .returned (.tuple #[.int .i64 (tV (a - b)), .int .i64 (tE (a - b))]) ∧ w = w' := by
  unfold inI at ha hb
  by_cases h1 : b < 0
  · by_cases h2 : 9223372036854775807 + b < a
    · have hn : ¬ inI (a - b) := by unfold inI; omega
      have H1 := Lib.hid (tV_out hn)
      have H2 := Lib.hid (tE_out hn)
      clear hn
      go_enter Try.func17, Try.ntmps17
      go_wp2
      go_ret2
      exact ⟨ret2 H1.out.symm H2.out.symm, rfl⟩
    · have hn : inI (a - b) := by unfold inI; omega
      have H1 := Lib.hid (tV_in hn)
      have H2 := Lib.hid (tE_in hn)
      unfold inI at hn
      go_enter Try.func17, Try.ntmps17
      go_wp2
      go_ret2
      exact ⟨ret2 H1.out.symm H2.out.symm, rfl⟩
  · by_cases h3 : 0 < b
    · by_cases h2 : a < -9223372036854775808 + b
      · have hn : ¬ inI (a - b) := by unfold inI; omega
        have H1 := Lib.hid (tV_out hn)
        have H2 := Lib.hid (tE_out hn)
        clear hn
        go_enter Try.func17, Try.ntmps17
        go_wp2
        go_ret2
        exact ⟨ret2 H1.out.symm H2.out.symm, rfl⟩
      · have hn : inI (a - b) := by unfold inI; omega
        have H1 := Lib.hid (tV_in hn)
        have H2 := Lib.hid (tE_in hn)
        unfold inI at hn
        go_enter Try.func17, Try.ntmps17
        go_wp2
        go_ret2
        exact ⟨ret2 H1.out.symm H2.out.symm, rfl⟩
    · have hn : inI (a - b) := by unfold inI; omega
      have H1 := Lib.hid (tV_in hn)
      have H2 := Lib.hid (tE_in hn)
      unfold inI at hn
      go_enter Try.func17, Try.ntmps17
      go_wp2
      go_ret2
      exact ⟨ret2 H1.out.symm H2.out.symm, rfl⟩

theorem Neg_any (a : Int) (ha : inI a) (w : World) :
    Calls Try.prog 25 #[.int .i64 a] w fun e w' => e = .returned (.tuple #[.int .i64 (tV (-a)), .int .i64 (tE (-a))]) ∧ w = w' := by
  go_enter Try.func25, Try.ntmps25
  go_wp2_with fail
  refine (Sub_any 0 a (by unfold inI; omega) ha _).mono ?_
  rintro e w' ⟨rfl, rfl⟩
  go_wp2
  go_ret2
  exact ⟨ret2 rfl rfl, rfl⟩

theorem neg_u64 (n : Int) (h : -9223372036854775808 ≤ n ∧ n < 0) : IntKind.u64.wrap (-(IntKind.u64.wrap n)) = amt n := by
  rw [amt_neg h.2, IntKind.wrap_u64, IntKind.wrap_u64]; omega
theorem sizeOf_any (n : Int) (hn : inI n) (w : World) :
    Calls Try.prog 31 #[.int .i64 n] w fun e w' => e = .returned (.int .u64 (amt n)) ∧ w = w' := by
  unfold inI at hn
  by_cases h : n < 0
  · have H := Lib.hid (neg_u64 n (by omega))
    go_enter Try.func31, Try.ntmps31
    go_wp2
    go_ret
    exact ⟨ret_int H.out, rfl⟩
  · have H := Lib.hid (amt_pos h)
    go_enter Try.func31, Try.ntmps31
    go_wp2
    go_ret
    exact ⟨ret_int H.out.symm, rfl⟩

theorem neg_i64 (n : Int) (h : 0 ≤ n ∧ n ≤ 9223372036854775808) : wrap64 (IntKind.u64.wrap (-n)) = -n := by
  unfold wrap64; rw [IntKind.wrap_u64]; omega
theorem signed_neg (n : Int) (hn : 0 ≤ n ∧ n ≤ 18446744073709551615) (w : World) :
    Calls Try.prog 28 #[.int .u64 n, .bool true] w fun e w' => e = .returned (.tuple #[.int .i64 (tV (-n)), .int .i64 (tE (-n))]) ∧ w = w' := by
  have Hl := Lib.hid (show amt (-9223372036854775808) = 9223372036854775808 from by decide +kernel)
  by_cases h : 9223372036854775808 < n
  · have hi : ¬ inI (-n) := by unfold inI; omega
    have H1 := Lib.hid (tV_out hi)
    have H2 := Lib.hid (tE_out hi)
    clear hi
    go_enter Try.func28, Try.ntmps28
    go_wp2_with fail
    refine (sizeOf_any _ (by unfold inI; omega) _).mono ?_
    rintro e w' ⟨rfl, rfl⟩
    rw [Hl.out]
    go_wp2
    go_ret2
    exact ⟨ret2 H1.out.symm H2.out.symm, rfl⟩
  · have hi : inI (-n) := by unfold inI; omega
    have H1 := Lib.hid (tV_in hi)
    have H2 := Lib.hid (tE_in hi)
    have H3 := Lib.hid (neg_i64 n (by omega))
    clear hi
    go_enter Try.func28, Try.ntmps28
    go_wp2_with fail
    refine (sizeOf_any _ (by unfold inI; omega) _).mono ?_
    rintro e w' ⟨rfl, rfl⟩
    rw [Hl.out]
    go_wp2
    go_ret2
    exact ⟨ret2 (H3.out.trans H1.out.symm) H2.out.symm, rfl⟩
theorem signed_pos (n : Int) (hn : 0 ≤ n ∧ n ≤ 18446744073709551615) (w : World) :
    Calls Try.prog 28 #[.int .u64 n, .bool false] w fun e w' => e = .returned (.tuple #[.int .i64 (tV n), .int .i64 (tE n)]) ∧ w = w' := by
  by_cases h : 9223372036854775807 < n
  · have hi : ¬ inI n := by unfold inI; omega
    have H1 := Lib.hid (tV_out hi)
    have H2 := Lib.hid (tE_out hi)
    clear hi
    go_enter Try.func28, Try.ntmps28
    go_wp2
    go_ret2
    exact ⟨ret2 H1.out.symm H2.out.symm, rfl⟩
  · have hi : inI n := by unfold inI; omega
    have H1 := Lib.hid (tV_in hi)
    have H2 := Lib.hid (tE_in hi)
    unfold inI at hi
    go_enter Try.func28, Try.ntmps28
    go_wp2
    go_ret2
    exact ⟨ret2 H1.out.symm H2.out.symm, rfl⟩
theorem signed_any (n : Int) (hn : 0 ≤ n ∧ n ≤ 18446744073709551615) (m : Bool) (w : World) :
    Calls Try.prog 28 #[.int .u64 n, .bool m] w fun e w' => e = .returned (.tuple #[.int .i64 (tV (sgn m n)), .int .i64 (tE (sgn m n))]) ∧ w = w' := by
  cases m
  · exact signed_pos n hn w
  · exact signed_neg n hn w

theorem behind_over (s d : Int) (_hs : 0 ≤ s ∧ s ≤ 18446744073709551615) (hd : 0 ≤ d ∧ d ≤ 9) (h : 18446744073709551615 < s * 10 + d) (w : World) :
    Calls Try.prog 36 #[.int .u64 s, .int .u64 d] w fun e w' => e = .returned (.tuple #[.int .u64 0, .bool true]) ∧ w = w' := by
  have ht : (18446744073709551615 - d) / 10 < s := by omega
  go_enter Try.func36, Try.ntmps36
  go_wp2
  go_ret2
  exact ⟨rfl, rfl⟩
theorem behind_fits (s d : Int) (hs : 0 ≤ s ∧ s ≤ 18446744073709551615) (hd : 0 ≤ d ∧ d ≤ 9) (h : s * 10 + d ≤ 18446744073709551615) (w : World) :
    Calls Try.prog 36 #[.int .u64 s, .int .u64 d] w fun e w' => e = .returned (.tuple #[.int .u64 (s * 10 + d), .bool false]) ∧ w = w' := by
  have ht : s ≤ (18446744073709551615 - d) / 10 := by omega
  go_enter Try.func36, Try.ntmps36
  go_wp2
  go_ret2
  exact ⟨rfl, rfl⟩

theorem dV_zero (a : Int) : dV a 0 = 0 := if_pos rfl
theorem dE_zero (a : Int) : dE a 0 = 17 := if_pos rfl
theorem mV_zero (a : Int) : mV a 0 = 0 := if_pos rfl
theorem mE_zero (a : Int) : mE a 0 = 17 := if_pos rfl
theorem wrap_in (x : Int) (h : inI x) : IntKind.i64.wrap x = x := IntWalk.i64_in x h
theorem wrap64_inI (x : Int) (h : inI x) : wrap64 x = x := IntWalk.wrap64_in x h
theorem Div_any (a b : Int) (ha : inI a) (hb : inI b) (w : World) :
    Calls Try.prog 21 #[.int .i64 a, .int .i64 b] w fun e w' => e = .returned (.tuple #[.int .i64 (dV a b), .int .i64 (dE a b)]) ∧ w = w' := by
  by_cases h0 : b = 0
  · subst h0
    have H1 := Lib.hid (dV_zero a)
    have H2 := Lib.hid (dE_zero a)
    go_enter Try.func21, Try.ntmps21
    go_wp2
    go_ret2
    exact ⟨ret2 H1.out.symm H2.out.symm, rfl⟩
  · by_cases h1 : a = -9223372036854775808 ∧ b = -1
    · obtain ⟨rfl, rfl⟩ := h1
      have H1 := Lib.hid (show dV (-9223372036854775808) (-1) = 0 from by decide +kernel)
      have H2 := Lib.hid (show dE (-9223372036854775808) (-1) = 16 from by decide +kernel)
      go_enter Try.func21, Try.ntmps21
      go_wp2
      go_ret2
      exact ⟨ret2 H1.out.symm H2.out.symm, rfl⟩
    · have hi := tdiv_in ha h0 h1
      have H1 := Lib.hid (show dV a b = a.tdiv b from by unfold dV; rw [if_neg h0, tV_in hi])
      have H2 := Lib.hid (show dE a b = 0 from by unfold dE; rw [if_neg h0, tE_in hi])
      have H3 := Lib.hid (wrap64_inI _ hi)
      clear hi
      have hb0 : (b == 0) = false := by simpa using h0
      by_cases h2 : a = -9223372036854775808
      · have hb1 : (b == -1) = false := by simp; intro e; exact h1 ⟨h2, e⟩
        have ha1 : (a == -9223372036854775808) = true := by simpa using h2
        clear h2
        unfold inI at ha hb
        go_enter Try.func21, Try.ntmps21
        go_wp2
        go_ret2
        exact ⟨ret2 (H3.out.trans H1.out.symm) H2.out.symm, rfl⟩
      · have ha1 : (a == -9223372036854775808) = false := by simpa using h2
        unfold inI at ha hb
        go_enter Try.func21, Try.ntmps21
        go_wp2
        go_ret2
        exact ⟨ret2 (H3.out.trans H1.out.symm) H2.out.symm, rfl⟩
theorem Mod_any (a b : Int) (w : World) :
    Calls Try.prog 23 #[.int .i64 a, .int .i64 b] w fun e w' => e = .returned (.tuple #[.int .i64 (mV a b), .int .i64 (mE a b)]) ∧ w = w' := by
  by_cases h0 : b = 0
  · subst h0
    have H1 := Lib.hid (mV_zero a)
    have H2 := Lib.hid (mE_zero a)
    go_enter Try.func23, Try.ntmps23
    go_wp2
    go_ret2
    exact ⟨ret2 H1.out.symm H2.out.symm, rfl⟩
  · have H1 := Lib.hid (show mV a b = a.tmod b from if_neg h0)
    have H2 := Lib.hid (show mE a b = 0 from if_neg h0)
    have hb0 : (b == 0) = false := by simpa using h0
    go_enter Try.func23, Try.ntmps23
    go_wp2
    go_ret2
    exact ⟨ret2 H1.out.symm H2.out.symm, rfl⟩

theorem sgn_mul (a b : Int) : sgn (decide (a < 0) != decide (b < 0)) (amt a * amt b) = a * b := by
  unfold sgn amt
  by_cases ha : a < 0 <;> by_cases hb : b < 0 <;> simp [ha, hb, Int.neg_mul, Int.mul_neg]
theorem amt_nat {x : Int} (h : inI x) : ∃ n : Nat, amt x = n ∧ n ≤ 9223372036854775808 := by
  have := amt_bd h
  exact ⟨(amt x).toNat, by omega, by omega⟩
set_option maxHeartbeats 400000 in
theorem Mul_any (a b : Int) (ha : inI a) (hb : inI b) (w : World) :
    Calls Try.prog 19 #[.int .i64 a, .int .i64 b] w fun e w' => e = .returned (.tuple #[.int .i64 (tV (a * b)), .int .i64 (tE (a * b))]) ∧ w = w' := by
  obtain ⟨x, hx, hx2⟩ := amt_nat ha
  obtain ⟨y, hy, hy2⟩ := amt_nat hb
  have hp : sgn (decide (a < 0) != decide (b < 0)) ((x * y : Nat) : Int) = a * b := by
    rw [← sgn_mul, hx, hy, Int.natCast_mul]
  have Hx := Lib.hid hx
  have Hy := Lib.hid hy
  clear hx hy
  generalize hz : x * y = z at hp
  have Hz := Lib.hid hz
  clear hz
  by_cases hover : 18446744073709551616 ≤ z
  · have hi : ¬ inI (a * b) := by
      rw [← hp]; unfold sgn inI; cases (decide (a < 0) != decide (b < 0)) <;> simp <;> omega
    have H1 := Lib.hid (tV_out hi)
    have H2 := Lib.hid (tE_out hi)
    have Hp := Lib.hid hp
    clear hp hi
    have hq : 1 ≤ z / 18446744073709551616 := by omega
    go_enter Try.func19, Try.ntmps19
    go_wp2_with fail
    refine (sizeOf_any _ ha _).mono ?_
    rintro e w' ⟨rfl, rfl⟩
    rw [Hx.out]
    go_wp2_with fail
    refine (sizeOf_any _ hb _).mono ?_
    rintro e w' ⟨rfl, rfl⟩
    rw [Hy.out]
    go_wp2_with fail
    refine (mul64_any x y (by omega) (by omega) _).mono ?_
    rintro e w' ⟨rfl, rfl⟩
    rw [Hz.out]
    have ht : (((z / 18446744073709551616 : Nat) : Int) != 0) = true := by simp; omega
    go_wp2
    go_ret2
    exact ⟨ret2 H1.out.symm H2.out.symm, rfl⟩
  · have Hp := Lib.hid hp
    clear hp
    have Hq := Lib.hid (show z / 18446744073709551616 = 0 by omega)
    have Hr := Lib.hid (show z % 18446744073709551616 = z by omega)
    go_enter Try.func19, Try.ntmps19
    go_wp2_with fail
    refine (sizeOf_any _ ha _).mono ?_
    rintro e w' ⟨rfl, rfl⟩
    rw [Hx.out]
    go_wp2_with fail
    refine (sizeOf_any _ hb _).mono ?_
    rintro e w' ⟨rfl, rfl⟩
    rw [Hy.out]
    go_wp2_with fail
    refine (mul64_any x y (by omega) (by omega) _).mono ?_
    rintro e w' ⟨rfl, rfl⟩
    rw [Hz.out, Hq.out, Hr.out]
    go_wp2_with fail
    refine (signed_any _ (by omega) _ _).mono ?_
    rintro e w' ⟨rfl, rfl⟩
    go_wp2
    go_ret2
    exact ⟨ret2 (by rw [← Hp.out]; rfl) (by rw [← Hp.out]; rfl), rfl⟩
end Go.Proofs.Ythnafenkpcnlbaa.dig
