/- Layer 2: the walks of DigitsTexts and DigitsBack. -/
import Derived.Test.YthnafenkpcnlbaaDigAwake
import Derived.Test.YthnafenkpcnlbaaDigRefP
namespace Go.Proofs.Ythnafenkpcnlbaa.dig
open Go.RowKit

theorem cut_size (s : ByteArray) (h : 30 < s.size) : (s.extract 0 30).size ≤ maxLen := by
  rw [ByteArray.size_extract]; unfold maxLen; omega
set_option maxHeartbeats 1000000 in
theorem texts_walk (n : Int) (s : ByteArray) (hn : inI n) (hs : s.size ≤ maxLen) (w : World) :
    Calls Try.prog 3 #[.int .i64 n, .string s] w fun e w' => e = .returned (.bool true) ∧ Below w.heap.size w w' := by
  have hs' := hs
  unfold maxLen at hs'
  go_enter Try.func3, Try.ntmps3
  go_wp2_with fail
  refine (awake_any _).mono ?_
  rintro e w' ⟨rfl, rfl⟩
  by_cases h30 : 30 < s.size
  case' pos =>
    have hT := cut_size s h30
    go_wp2_with fail
    refine (Parse_any (s.extract 0 30) hT _).mono ?_
    rintro e w' ⟨rfl, rfl⟩
    go_wp2_with fail
    refine (RefParse_any (s.extract 0 30) hT _).mono ?_
    rintro e w1 ⟨rfl, b1⟩
  case' neg =>
    go_wp2_with fail
    refine (Parse_any s hs _).mono ?_
    rintro e w' ⟨rfl, rfl⟩
    go_wp2_with fail
    refine (RefParse_any s hs _).mono ?_
    rintro e w1 ⟨rfl, b1⟩
  all_goals
    go_wp2_with fail
    refine (text_any n hn _).mono ?_
    rintro e w2 ⟨rfl, b2⟩
    go_wp2_with fail
    refine (RefText_any n hn _).mono ?_
    rintro e w3 ⟨rfl, b3⟩
    go_wp2
    go_ret
    exact ⟨rfl, b1.trans ((b2.mono b1.size).trans (b3.mono (Nat.le_trans b1.size b2.size)))⟩

theorem txt_len (n : Int) (h : inI n) : (txt n).length ≤ 20 := by
  obtain ⟨N, hN, hN2⟩ := amt_nat h
  have e : n.natAbs = N := by unfold amt at hN; split at hN <;> omega
  have hl := digs_len20 N hN2
  unfold txt
  rw [e]
  split
  · simp; omega
  · omega
theorem txt_size (n : Int) (h : inI n) : (⟨(txt n).toArray⟩ : ByteArray).size ≤ maxLen := by
  have := txt_len n h
  show (txt n).toArray.size ≤ maxLen
  unfold maxLen; simp; omega
theorem back_str (s : ByteArray) (h : pE s.data.toList = 0) : (⟨(txt (pV s.data.toList)).toArray⟩ : ByteArray) = s := by
  rw [(txt_of_parse _ h).2]
set_option maxHeartbeats 1000000 in
theorem back_walk (n : Int) (s : ByteArray) (hn : inI n) (hs : s.size ≤ maxLen) (w : World) :
    Calls Try.prog 6 #[.int .i64 n, .string s] w fun e w' => e = .returned (.bool true) ∧ Below w.heap.size w w' := by
  have Hp := Lib.hid (txt_parse n hn)
  obtain ⟨T, hTm, hcase⟩ : ∃ T : ByteArray, T.size ≤ maxLen ∧ ((30 < s.size ∧ s.extract 0 30 = T) ∨ (¬ 30 < s.size ∧ s = T)) := by
    by_cases h30 : 30 < s.size
    · exact ⟨_, cut_size s h30, .inl ⟨h30, rfl⟩⟩
    · exact ⟨s, hs, .inr ⟨h30, rfl⟩⟩
  have hs' := hs
  unfold maxLen at hs'
  go_enter Try.func6, Try.ntmps6
  go_wp2_with fail
  refine (awake_any _).mono ?_
  rintro e w' ⟨rfl, rfl⟩
  rcases hcase with ⟨h30, hT⟩ | ⟨h30, hT⟩
  case' inl =>
    have HT := Lib.hid hT
    clear hT
    go_wp2_with fail
    rw [HT.out]
  case' inr =>
    obtain rfl : T = s := hT.symm
    go_wp2_with fail
  all_goals
    refine (text_any n hn _).mono ?_
    rintro e w1 ⟨rfl, b1⟩
    go_wp2_with fail
    refine (Parse_any _ (txt_size n hn) _).mono ?_
    rintro e w' ⟨rfl, rfl⟩
    rw [show (⟨(txt n).toArray⟩ : ByteArray).data.toList = txt n from rfl, Hp.out.1, Hp.out.2]
    go_wp2_with fail
    refine (Parse_any _ hTm _).mono ?_
    rintro e w' ⟨rfl, rfl⟩
    by_cases hf : pE T.data.toList = 0
    · have Hstr := Lib.hid (back_str T hf)
      rw [hf]
      clear hf
      go_wp2_with fail
      refine (text_any _ (pV_in _) _).mono ?_
      rintro e w2 ⟨rfl, b2⟩
      rw [Hstr.out]
      go_wp2
      go_ret
      exact ⟨rfl, b1.trans (b2.mono b1.size)⟩
    · rw [pV_zero _ hf]
      generalize pE T.data.toList = f at hf
      have hf1 : (f == 0) = false := by simpa using hf
      have hf2 : (f != 0) = true := by simpa using hf
      clear hf
      go_wp2
      go_ret
      exact ⟨rfl, b1⟩
end Go.Proofs.Ythnafenkpcnlbaa.dig
