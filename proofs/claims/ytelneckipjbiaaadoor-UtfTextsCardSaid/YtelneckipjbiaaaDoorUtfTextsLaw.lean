/- UtfTexts: texts are valid, counted, parted and cut as the document's own answers say. -/
import Derived.Test.YtelneckipjbiaaaDoorUtfRow
import Derived.Test.YtelneckipjbiaaaDoorUtfCutsLaw
import Derived.OpenShut
namespace Go.Proofs.YtelneckipjbiaaaDoor.utf
open Go.RowKit

theorem text_at (A : Option Addr) (c : Nat) (xs : List Int) (n : Nat) (hn : xs.length = n) (h1000 : xs.length ≤ 1000) (w : World) (hr : RowIs w A xs) :
    Calls Tryd.prog 19 #[.slice A n c] w fun e w' => e = .returned (.string ⟨(xs.flatMap enc).toArray⟩) ∧ Below w.heap.size w w' := by
  subst hn
  exact text_any A c xs h1000 w hr
theorem same_rows (A B : Option Addr) (c d : Nat) (xs : List Int) (h1000 : xs.length ≤ 1000) (w : World) (h1 : RowIs w A xs) (h2 : RowIs w B xs) :
    Calls Tryd.prog 18 #[.slice A xs.length c, .slice B xs.length d] w fun e w' => e = .returned (.bool true) ∧ Below w.heap.size w w' := by
  rcases Nat.eq_zero_or_pos xs.length with h | h
  · rw [h]
    exact same_nil A B c d w
  · obtain ⟨g, rfl, _, a⟩ := h1 h
    obtain ⟨g', rfl, _, b⟩ := h2 h
    exact same_cons g g' c d xs h1000 w a b

theorem cut_text (x : ByteArray) (n : Int) (M : Nat) (hM : (ptsOf x.data.toList).take M = (ptsOf x.data.toList).take n.toNat) (h : okB x.data.toList = true) : (⟨(((ptsOf x.data.toList).take M).flatMap enc).toArray⟩ : ByteArray) = cutS x n := by
  have hl : x.data.toList.length = x.size := by rw [Array.length_toList]; rfl
  obtain ⟨_, _, _, c4⟩ := cut_len _ 0 n.toNat x.data.toList (Nat.le_refl _) (okB_to h)
  rw [Nat.zero_add, hl, Nat.sub_zero] at c4
  apply ByteArray.ext
  apply Array.toList_inj.1
  unfold cutS
  rw [if_pos h, Lib.extract_data, List.drop_zero, Nat.sub_zero, c4, hM]
  unfold ptsOf sndL
  rw [List.map_take]

set_option maxRecDepth 100000 in
set_option maxHeartbeats 4000000 in
theorem texts_no (s : ByteArray) (hs : s.size ≤ maxLen) (n : Int) (hn : n ≤ 9223372036854775807) (hok : okB (s.extract 0 60).data.toList = false) (w : World) (hT : Tab w) :
    Calls Tryd.prog 4 #[.string s, .int .i64 n] w fun e w' => e = .returned (.bool true) ∧ Below w.heap.size w w' := by
  have hx : (s.extract 0 60).size ≤ 60 := by rw [ByteArray.size_extract]; omega
  go_enter Tryd.func4, Tryd.ntmps4
  go_wp2_with fail
  refine (awake_any _ hT).mono ?_
  rintro e w1 ⟨rfl, hb1⟩
  have hT1 := hT.self hb1
  go_wp2_with fail
  refine (short_any s hs 60 _).mono ?_
  rintro e w2 ⟨rfl, rfl⟩
  generalize s.extract 0 60 = x at *
  have Hx : Hid (x.size ≤ maxLen) := by show x.size ≤ maxLen; unfold maxLen; omega
  have hcx : cutS x n = ⟨#[]⟩ := by unfold cutS; rw [hok]; rfl
  have hct : countOf x.data.toList = -1 := by unfold countOf; rw [hok]; rfl
  have Hok := Lib.hid hok
  have Hcx := Lib.hid hcx
  have Hct := Lib.hid hct
  clear hok hcx hct
  go_wp2_with fail
  refine (Points_any x (by omega) _ hT1).mono ?_
  rintro e w3 ⟨⟨_, rfl⟩ | ⟨h0, _⟩, hb3⟩
  case inr => rw [Hok.out] at h0; cases h0
  have hB3 := hb1.trans (hb3.mono hb1.size)
  go_wp2_with fail
  refine (refPoints_any x (by omega) _).mono ?_
  rintro e w4 ⟨⟨_, rfl⟩ | ⟨h0, _⟩, hb4⟩
  case inr => rw [Hok.out] at h0; cases h0
  have hB4 := hB3.trans (hb4.mono hB3.size)
  go_wp2_with fail
  refine (same_nil none none 0 0 _).mono ?_
  rintro e w5 ⟨rfl, hb5⟩
  have hB5 := hB4.trans (hb5.mono hB4.size)
  have hT5 := hT.self hB5
  go_wp2_with fail
  refine (Cut_any x (by omega) n hn _ hT5).mono ?_
  rintro e w6 ⟨rfl, hb6⟩
  rw [Hok.out, Hcx.out]
  have hB6 := hB5.trans (hb6.mono hB5.size)
  have hT6 := hT.self hB6
  go_wp2_with fail
  refine (Valid_any x Hx.out _ hT6).mono ?_
  rintro e w7 ⟨rfl, hb7⟩
  rw [Hok.out]
  have hB7 := hB6.trans (hb7.mono hB6.size)
  have hT7 := hT.self hB7
  go_wp2_with fail
  refine (Count_any x Hx.out _ hT7).mono ?_
  rintro e w8 ⟨rfl, hb8⟩
  rw [Hct.out]
  have hB8 := hB7.trans (hb8.mono hB7.size)
  have hT8 := hT.self hB8
  go_wp2_with fail
  refine (Bad_any x Hx.out _ hT8).mono ?_
  rintro e w9 ⟨rfl, hb9⟩
  have hB9 := hB8.trans (hb9.mono hB8.size)
  go_wp2_with fail
  refine (refBad_any x (by omega) _).mono ?_
  rintro e w10 ⟨rfl, hb10⟩
  go_wp2
  go_ret
  exact ⟨ret_bool' (by simp), hB9.trans (hb10.mono hB9.size)⟩

set_option maxRecDepth 100000 in
set_option maxHeartbeats 4000000 in
theorem texts_yes (s : ByteArray) (hs : s.size ≤ maxLen) (n : Int) (hn : n ≤ 9223372036854775807) (hok : okB (s.extract 0 60).data.toList = true) (w : World) (hT : Tab w) :
    Calls Tryd.prog 4 #[.string s, .int .i64 n] w fun e w' => e = .returned (.bool true) ∧ Below w.heap.size w w' := by
  have hx : (s.extract 0 60).size ≤ 60 := by rw [ByteArray.size_extract]; omega
  go_enter Tryd.func4, Tryd.ntmps4
  go_wp2_with fail
  refine (awake_any _ hT).mono ?_
  rintro e w1 ⟨rfl, hb1⟩
  have hT1 := hT.self hb1
  go_wp2_with fail
  refine (short_any s hs 60 _).mono ?_
  rintro e w2 ⟨rfl, rfl⟩
  generalize s.extract 0 60 = x at *
  have Hx : Hid (x.size ≤ maxLen) := by show x.size ≤ maxLen; unfold maxLen; omega
  have hct : countOf x.data.toList = ((ptsOf x.data.toList).length : Nat) := by unfold countOf ptsOf; rw [hok, sndL_len]; rfl
  have Hct := Lib.hid hct
  have Hok := Lib.hid hok
  have hN : (ptsOf x.data.toList).length ≤ 60 := by
    unfold ptsOf; rw [sndL_len]; have := sq_bd x; omega
  have Htx : Hid (∀ M : Nat, (ptsOf x.data.toList).take M = (ptsOf x.data.toList).take n.toNat → (⟨(((ptsOf x.data.toList).take M).flatMap enc).toArray⟩ : ByteArray) = cutS x n) := fun M hM => cut_text x n M hM hok
  clear hct hok
  go_wp2_with fail
  refine (Points_any x (by omega) _ hT1).mono ?_
  rintro e w3 ⟨⟨h0, _⟩ | ⟨_, v1, rfl, hown1⟩, hb3⟩
  case inl => rw [Hok.out] at h0; cases h0
  have hB3 := hb1.trans (hb3.mono hb1.size)
  obtain ⟨A1, c1, rfl, hr1, _⟩ := row_of_own hown1
  go_wp2_with fail
  refine (refPoints_any x (by omega) _).mono ?_
  rintro e w4 ⟨⟨h0, _⟩ | ⟨_, v2, rfl, hown2⟩, hb4⟩
  case inl => rw [Hok.out] at h0; cases h0
  have hB4 := hB3.trans (hb4.mono hB3.size)
  obtain ⟨A2, c2, rfl, hr2, hcap⟩ := row_of_own hown2
  have hr1' := hr1.below hb4
  clear hr1 hown1 hown2
  have Hr1 := Lib.hid hr1'
  have Hr2 := Lib.hid hr2
  clear hr1' hr2
  generalize hP : ptsOf x.data.toList = P at *
  clear hP
  go_wp2_with fail
  refine (same_rows A1 A2 c1 c2 P (by omega) _ Hr1.out Hr2.out).mono ?_
  rintro e w5 ⟨rfl, hb5⟩
  have hB5 := hB4.trans (hb5.mono hB4.size)
  have hT5 := hT.self hB5
  have Hr5 : Hid (RowIs w5 A2 P) := Hr2.out.below hb5
  go_wp2_with fail
  all_goals
    have heq : Hid (P.take (n.toNat) = P.take n.toNat) := by show _ = _; rfl
    refine (text_at A2 c2 (P.take (n.toNat)) _ (by rw [List.length_take]; omega) (by rw [List.length_take]; omega) _ (Hr5.out.take _)).mono ?_
    rintro e w6 ⟨rfl, hb6⟩
    rw [Htx.out _ heq.out]
    have hB6 := hB5.trans (hb6.mono hB5.size)
    have hT6 := hT.self hB6
    go_wp2_with fail
    refine (Cut_any x (by omega) n hn _ hT6).mono ?_
    rintro e w7 ⟨rfl, hb7⟩
    rw [Hok.out]
    generalize cutS x n = Z at *
    have hB7 := hB6.trans (hb7.mono hB6.size)
    have hT7 := hT.self hB7
    go_wp2_with fail
    refine (Valid_any x Hx.out _ hT7).mono ?_
    rintro e w8 ⟨rfl, hb8⟩
    rw [Hok.out]
    have hB8 := hB7.trans (hb8.mono hB7.size)
    have hT8 := hT.self hB8
    go_wp2_with fail
    refine (Count_any x Hx.out _ hT8).mono ?_
    rintro e w9 ⟨rfl, hb9⟩
    rw [Hct.out]
    have hB9 := hB8.trans (hb9.mono hB8.size)
    have hT9 := hT.self hB9
    go_wp2_with fail
    refine (Bad_any x Hx.out _ hT9).mono ?_
    rintro e w10 ⟨rfl, hb10⟩
    have hB10 := hB9.trans (hb10.mono hB9.size)
    go_wp2_with fail
    refine (refBad_any x (by omega) _).mono ?_
    rintro e w11 ⟨rfl, hb11⟩
    go_wp2
    go_ret
    exact ⟨ret_bool' (by simp), hB10.trans (hb11.mono hB10.size)⟩

theorem texts_walk (s : ByteArray) (hs : s.size ≤ maxLen) (n : Int) (wn : (Lit.int .i64 n).wf = true) (w : World) (hT : Tab w) :
    Calls Tryd.prog 4 #[.string s, .int .i64 n] w fun e w' => e = .returned (.bool true) ∧ Below w.heap.size w w' := by
  have hn : n ≤ 9223372036854775807 := (bounds_i64 wn).2
  cases hok : okB (s.extract 0 60).data.toList
  · exact texts_no s hs n hn hok w hT
  · exact texts_yes s hs n hn hok w hT
end Go.Proofs.YtelneckipjbiaaaDoor.utf
