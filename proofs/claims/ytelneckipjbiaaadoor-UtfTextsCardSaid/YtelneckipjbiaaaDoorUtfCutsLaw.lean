/- UtfCuts: what is cut, and cut again, is cut by the less; it has so many points; the text begins with it. -/
import Derived.Test.YtelneckipjbiaaaDoorUtfSmall
import Derived.Test.YtelneckipjbiaaaDoorUtfCutP
namespace Go.Proofs.YtelneckipjbiaaaDoor.utf
open Go.RowKit

def cutS (s : ByteArray) (n : Int) : ByteArray := if okB s.data.toList = true then s.extract 0 (cutAt n.toNat s.size (sq 0 s.data.toList)) else ⟨#[]⟩
theorem Cut_any (s : ByteArray) (hs : s.size ≤ 1000) (n : Int) (hn : n ≤ 9223372036854775807) (w : World) (hT : Tab w) :
    Calls Tryd.prog 20 #[.string s, .int .i64 n] w fun e W' => e = .returned (.tuple #[.string (cutS s n), .bool (okB s.data.toList)]) ∧ Below w.heap.size w W' := by
  unfold cutS
  cases hok : okB s.data.toList
  · exact Cut_no s (by unfold maxLen; omega) n hok w hT
  · exact callsIn_wide.1 (Cut_yes 3 (by omega) s hs n hn hok w hT)

theorem ret_bool' {a b : Bool} (h : a = b) : Ending.returned (.bool a) = .returned (.bool b) := by rw [h]
theorem and31 (n : Int) : 0 ≤ bits .and .i64 n 31 ∧ bits .and .i64 n 31 ≤ 31 := by
  have o : (BitVec.ofInt 64 31).toNat = 31 := by decide
  have h : (BitVec.ofInt 64 n &&& BitVec.ofInt 64 31).toNat ≤ 31 := by
    rw [BitVec.toNat_and, o]; exact Nat.and_le_right
  have e : bits .and .i64 n 31 = IntKind.i64.wrap ((BitVec.ofInt 64 n &&& BitVec.ofInt 64 31).toNat : Int) := rfl
  rw [e, IntKind.wrap_i64]
  omega

theorem cutS_list (s : ByteArray) (n : Nat) (h : okB s.data.toList = true) :
    (cutS s n).data.toList = s.data.toList.take (cutAt n s.size (sq 0 s.data.toList)) ∧ sq 0 (cutS s n).data.toList = (sq 0 s.data.toList).take n ∧ (cutS s n).size = cutAt n s.size (sq 0 s.data.toList) ∧ (cutS s n).size ≤ s.size := by
  have hl : s.data.toList.length = s.size := by rw [Array.length_toList]; rfl
  obtain ⟨_, c2, c3, _⟩ := cut_len _ 0 n s.data.toList (Nat.le_refl _) (okB_to h)
  rw [Nat.zero_add, hl] at c2 c3
  have e : (cutS s n).data.toList = s.data.toList.take (cutAt n s.size (sq 0 s.data.toList)) := by
    unfold cutS
    rw [if_pos h, Lib.extract_data, List.drop_zero, Int.toNat_natCast, Nat.sub_zero]
  have es : (cutS s n).size = cutAt n s.size (sq 0 s.data.toList) := by
    show (cutS s n).data.size = _
    rw [← Array.length_toList, e, List.length_take, hl]
    omega
  refine ⟨e, ?_, es, by omega⟩
  rw [e]
  exact c3

theorem cut_twice (s : ByteArray) (a b : Nat) (h : okB s.data.toList = true) :
    okB (cutS s a).data.toList = true ∧ cutS (cutS s a) b = cutS s (min a b : Nat) ∧ countOf (cutS s a).data.toList = min (a : Int) (countOf s.data.toList) := by
  obtain ⟨e1, e2, e3, e4⟩ := cutS_list s a h
  have hne := okB_to h
  have hok : okB (cutS s a).data.toList = true := okB_of (by rw [e2]; exact fun y hy => hne y (List.mem_of_mem_take hy))
  obtain ⟨f1, f2, f3, f4⟩ := cutS_list (cutS s a) b hok
  obtain ⟨g1, g2, g3, g4⟩ := cutS_list s (min a b) h
  refine ⟨hok, ?_, ?_⟩
  · apply ByteArray.ext
    apply Array.toList_inj.1
    rw [f1, e1, g1, e3, ← e1, e2, cutAt_min, e1, List.take_take]
    congr 1
    rw [← cutAt_min, ← e3, ← e2, ← f3]
    omega
  · unfold countOf
    rw [hok, h, e2]
    simp only [if_true, List.length_take]
    omega

set_option maxRecDepth 100000 in
set_option maxHeartbeats 4000000 in
theorem cuts_walk (s : ByteArray) (hs : s.size ≤ maxLen) (n m : Int) (w : World) (hT : Tab w) :
    Calls Tryd.prog 7 #[.string s, .int .i64 n, .int .i64 m] w fun e w' => e = .returned (.bool true) ∧ Below w.heap.size w w' := by
  have hx : (s.extract 0 60).size ≤ 60 := by rw [ByteArray.size_extract]; omega
  obtain ⟨a, ha⟩ : ∃ a : Nat, bits .and .i64 n 31 = a := ⟨_, (Int.toNat_of_nonneg (and31 n).1).symm⟩
  obtain ⟨b, hb⟩ : ∃ b : Nat, bits .and .i64 m 31 = b := ⟨_, (Int.toNat_of_nonneg (and31 m).1).symm⟩
  have ha31 : a ≤ 31 := by have := (and31 n).2; omega
  have hb31 : b ≤ 31 := by have := (and31 m).2; omega
  have Ha := Lib.hid ha
  have Hb := Lib.hid hb
  clear ha hb
  go_enter Tryd.func7, Tryd.ntmps7
  go_wp2_with fail
  refine (awake_any _ hT).mono ?_
  rintro e w1 ⟨rfl, hb1⟩
  have hT1 := hT.self hb1
  go_wp2_with fail
  refine (short_any s hs 60 _).mono ?_
  rintro e w2 ⟨rfl, rfl⟩
  generalize s.extract 0 60 = x at *
  have Hx : Hid (x.size ≤ maxLen) := by show x.size ≤ maxLen; unfold maxLen; omega
  go_wp2_with fail
  rw [Ha.out, Hb.out]
  refine (Cut_any x (by omega) (a : Int) (by omega) _ hT1).mono ?_
  rintro e w3 ⟨rfl, hb3⟩
  have hB3 := hb1.trans (hb3.mono hb1.size)
  have hT3 := hT.self hB3
  cases hok : okB x.data.toList
  · have hcx : cutS x (a : Int) = ⟨#[]⟩ := by unfold cutS; rw [hok]; rfl
    rw [hcx]
    clear hcx
    have Hok := Lib.hid hok
    clear hok
    go_wp2_with fail
    refine (Cut_any ⟨#[]⟩ (by decide) (b : Int) (by omega) _ hT3).mono ?_
    rintro e w4 ⟨rfl, hb4⟩
    have hB4 := hB3.trans (hb4.mono hB3.size)
    have hT4 := hT.self hB4
    have h0 : okB (⟨#[]⟩ : ByteArray).data.toList = true := fV2
    rw [h0]
    go_wp2_with fail
    refine (Cut_any x (by omega) _ (by omega) _ hT4).mono ?_
    rintro e w5 ⟨rfl, hb5⟩
    have hB5 := hB4.trans (hb5.mono hB4.size)
    have hT5 := hT.self hB5
    rw [Hok.out]
    go_wp2_with fail
    refine (Valid_any x Hx.out _ hT5).mono ?_
    rintro e w6 ⟨rfl, hb6⟩
    rw [Hok.out]
    go_wp2
    go_ret
    exact ⟨rfl, hB5.trans (hb6.mono hB5.size)⟩
  · obtain ⟨c1, c2, c3⟩ := cut_twice x a b hok
    obtain ⟨d1, d2, d3, d4⟩ := cutS_list x a hok
    have hmn : ((min a b : Nat) : Int) = min (a : Int) (b : Int) := by omega
    rw [hmn] at c2
    have hsl : x.extract 0 (cutS x (a : Int)).size = cutS x (a : Int) := by
      apply ByteArray.ext
      apply Array.toList_inj.1
      rw [Lib.extract_data, List.drop_zero, Nat.sub_zero, d1, d3]
    generalize cutS x (a : Int) = X at *
    have hXs : X.size ≤ 60 := by omega
    have HX : Hid (X.size ≤ maxLen) := by show X.size ≤ maxLen; unfold maxLen; omega
    have C1 := Lib.hid c1
    have C2 := Lib.hid c2
    have C3 := Lib.hid c3
    have Hsl := Lib.hid hsl
    have Hok := Lib.hid hok
    have hXx : (X.size : Int) ≤ x.size := by omega
    have hXx2 : X.size ≤ x.size := d4
    clear c1 c2 c3 hsl d1 d2 d3 d4 hmn hok
    go_wp2_with fail
    refine (Cut_any X (by omega) (b : Int) (by omega) _ hT3).mono ?_
    rintro e w4 ⟨rfl, hb4⟩
    have hB4 := hB3.trans (hb4.mono hB3.size)
    have hT4 := hT.self hB4
    rw [C1.out, C2.out]
    go_wp2_with fail
    refine (Cut_any x (by omega) _ (by omega) _ hT4).mono ?_
    rintro e w5 ⟨rfl, hb5⟩
    have hB5 := hB4.trans (hb5.mono hB4.size)
    have hT5 := hT.self hB5
    rw [Hok.out]
    generalize cutS x (min (a : Int) (b : Int)) = Y at *
    go_wp2_with fail
    refine (Count_any X HX.out _ hT5).mono ?_
    rintro e w6 ⟨rfl, hb6⟩
    have hB6 := hB5.trans (hb6.mono hB5.size)
    have hT6 := hT.self hB6
    rw [C3.out]
    go_wp2_with fail
    refine (Count_any x Hx.out _ hT6).mono ?_
    rintro e w7 ⟨rfl, hb7⟩
    have hsl2 := Hsl.out
    go_wp2
    go_ret
    exact ⟨ret_bool' (by simp), hB6.trans (hb7.mono hB6.size)⟩
end Go.Proofs.YtelneckipjbiaaaDoor.utf
