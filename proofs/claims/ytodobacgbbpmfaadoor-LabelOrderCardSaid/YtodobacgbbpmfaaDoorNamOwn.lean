/- Layer 3: the contracts of names' own Label, LabelValue, Segment, Verb, Path and keyName. -/
import Derived.Test.YtodobacgbbpmfaaDoorNamMade
import Derived.Test.YtodobacgbbpmfaaDoorNamShelf
namespace Go.Proofs.YtodobacgbbpmfaaDoor.nam
open Go.RowKit Go.Shelf

set_option maxHeartbeats 400000 in
theorem Label_any (s : ByteArray) (hs : s.size ≤ maxLen) (w : World) :
    Calls Tryd.prog 68 #[.string s] w fun e w' => e = .returned (.bool (labB s.data.toList)) ∧ Below w.heap.size w w' := by
  have cz := fun w => sized_any s hs 1 63 (by omega) w
  cases hz : (decide (1 ≤ s.data.toList.length) && decide (s.data.toList.length ≤ 63)) with
  | false =>
    have H := Lib.hid (show labB s.data.toList = false by unfold labB; rw [hz]; rfl)
    rw [hz] at cz
    clear hz
    go_enter Tryd.func68, Tryd.ntmps68
    go_wp2_with fail
    refine (either_any 54 56 #[] #[] smallB digitB _ (asks_small _) (asks_digit _)).mono ?_
    rintro e w1 ⟨kE, cE, rfl, hE, hb1⟩
    go_wp2_with fail
    refine (cz _).mono ?_
    rintro e w' ⟨rfl, rfl⟩
    go_wp2
    go_ret
    exact ⟨ret_bool H.out.symm, hb1⟩
  | true =>
    have H := Lib.hid (show labB s.data.toList = madeB edgeL (orB edgeL dashB) s.data.toList by unfold labB; rw [hz]; rfl)
    rw [hz] at cz
    clear hz
    go_enter Tryd.func68, Tryd.ntmps68
    go_wp2_with fail
    refine (either_any 54 56 #[] #[] smallB digitB _ (asks_small _) (asks_digit _)).mono ?_
    rintro e w1 ⟨kE, cE, rfl, hE, hb1⟩
    go_wp2_with fail
    refine (cz _).mono ?_
    rintro e w' ⟨rfl, rfl⟩
    go_wp2_with fail
    refine (either_any kE 74 cE #[] edgeL dashB _ hE (asks_dash _)).mono ?_
    rintro e w2 ⟨kI, cI, rfl, hI, hb2⟩
    go_wp2_with fail
    refine (made_any s hs kE kI cE cI edgeL (orB edgeL dashB) _ (hE.later hb2) hI).mono ?_
    rintro e w' ⟨rfl, rfl⟩
    go_wp2
    go_ret
    exact ⟨ret_bool H.out.symm, hb1.trans (hb2.mono hb1.size)⟩

set_option maxHeartbeats 400000 in
theorem LabelValue_any (s : ByteArray) (hs : s.size ≤ maxLen) (w : World) :
    Calls Tryd.prog 33 #[.string s] w fun e w' => e = .returned (.bool (valB s.data.toList)) ∧ Below w.heap.size w w' := by
  have cz := fun w => sized_any s hs 0 63 (by omega) w
  cases hz : (decide (0 ≤ s.data.toList.length) && decide (s.data.toList.length ≤ 63)) with
  | false =>
    have H := Lib.hid (show valB s.data.toList = false by unfold valB; rw [hz]; rfl)
    rw [hz] at cz
    clear hz
    go_enter Tryd.func33, Tryd.ntmps33
    go_wp2_with fail
    refine (either_any 54 55 #[] #[] smallB greatB _ (asks_small _) (asks_great _)).mono ?_
    rintro e w1 ⟨kA, cA, rfl, hA, hb1⟩
    go_wp2_with fail
    refine (either_any kA 56 cA #[] (orB smallB greatB) digitB _ hA (asks_digit _)).mono ?_
    rintro e w2 ⟨kE, cE, rfl, hE, hb2⟩
    go_wp2_with fail
    refine (cz _).mono ?_
    rintro e w' ⟨rfl, rfl⟩
    go_wp2
    go_ret
    exact ⟨ret_bool H.out.symm, hb1.trans (hb2.mono hb1.size)⟩
  | true =>
    have H := Lib.hid (show valB s.data.toList = madeB edgeV (orB edgeV joinB) s.data.toList by unfold valB; rw [hz]; rfl)
    rw [hz] at cz
    clear hz
    go_enter Tryd.func33, Tryd.ntmps33
    go_wp2_with fail
    refine (either_any 54 55 #[] #[] smallB greatB _ (asks_small _) (asks_great _)).mono ?_
    rintro e w1 ⟨kA, cA, rfl, hA, hb1⟩
    go_wp2_with fail
    refine (either_any kA 56 cA #[] (orB smallB greatB) digitB _ hA (asks_digit _)).mono ?_
    rintro e w2 ⟨kE, cE, rfl, hE, hb2⟩
    go_wp2_with fail
    refine (cz _).mono ?_
    rintro e w' ⟨rfl, rfl⟩
    go_wp2_with fail
    refine (either_any kE 59 cE #[] edgeV joinB _ hE (asks_joining _)).mono ?_
    rintro e w3 ⟨kI, cI, rfl, hI, hb3⟩
    go_wp2_with fail
    refine (made_any s hs kE kI cE cI edgeV (orB edgeV joinB) _ (hE.later hb3) hI).mono ?_
    rintro e w' ⟨rfl, rfl⟩
    go_wp2
    go_ret
    have hb12 := hb1.trans (hb2.mono hb1.size)
    exact ⟨ret_bool H.out.symm, hb12.trans (hb3.mono hb12.size)⟩

theorem keyName_any (s : ByteArray) (hs : s.size ≤ maxLen) (w : World) :
    Calls Tryd.prog 51 #[.string s] w fun e w' => e = .returned (.bool (keyNameB s.data.toList)) ∧ Below w.heap.size w w' := by
  by_cases h0 : s.data.toList = []
  · have H := Lib.hid (show keyNameB s.data.toList = false by unfold keyNameB; rw [h0]; rfl)
    have hs0 : s = ⟨#[]⟩ := ByteArray.ext (Array.toList_inj.1 h0)
    subst hs0
    go_enter Tryd.func51, Tryd.ntmps51
    go_wp2
    go_ret
    exact ⟨ret_bool H.out.symm, Below.refl _ _⟩
  · have hne : (s.data.toList == []) = false := beq_eq_false_iff_ne.2 h0
    have H := Lib.hid (show keyNameB s.data.toList = valB s.data.toList by unfold keyNameB; rw [hne]; rfl)
    have he : (!s.toList.isEmpty) = true := by rw [ByteArray.toList_eq]; simpa using h0
    have he2 : s.toList.isEmpty = false := by rw [ByteArray.toList_eq]; simpa using h0
    clear hne h0
    go_enter Tryd.func51, Tryd.ntmps51
    go_wp2_with fail
    refine (LabelValue_any s hs _).mono ?_
    rintro e w1 ⟨rfl, hb1⟩
    go_wp2
    go_ret
    exact ⟨ret_bool H.out.symm, hb1⟩

end Go.Proofs.YtodobacgbbpmfaaDoor.nam
