/- Layer 3: the contracts of names' own Label, LabelValue, Segment, Verb, Path and keyName. -/
import Derived.Test.YthflpgeonllgdaaDoorNamMade
import Derived.Test.YthflpgeonllgdaaDoorNamShelf
namespace Go.Proofs.YthflpgeonllgdaaDoor.nam
open Go.RowKit Go.Shelf

set_option maxHeartbeats 400000 in
theorem Label_any (s : ByteArray) (hs : s.size ≤ maxLen) (w : World) :
    Calls Tryd.prog 41 #[.string s] w fun e w' => e = .returned (.bool (labB s.data.toList)) ∧ Below w.heap.size w w' := by
  have cz := fun w => sized_any s hs 1 63 (by omega) w
  cases hz : (decide (1 ≤ s.data.toList.length) && decide (s.data.toList.length ≤ 63)) with
  | false =>
    have H := Lib.hid (show labB s.data.toList = false by unfold labB; rw [hz]; rfl)
    rw [hz] at cz
    clear hz
    go_enter Tryd.func41, Tryd.ntmps41
    go_wp2_with fail
    refine (either_any 62 69 #[] #[] smallB digitB _ (asks_small _) (asks_digit _)).mono ?_
    rintro e w1 ⟨kE, cE, rfl, hE, hb1⟩
    go_wp2_with fail
    refine (cz _).mono ?_
    rintro e w' ⟨rfl, rfl⟩
    go_wp2
    go_ret
    exact ⟨ret_bool H.out.symm, hb1⟩
  | true =>
    have H := Lib.hid (show labB s.data.toList = madeB edgeL (orB edgeL dashB) s.data.toList by unfold labB; rw [hz]; rfl)
    rw [hz] at cz
    clear hz
    go_enter Tryd.func41, Tryd.ntmps41
    go_wp2_with fail
    refine (either_any 62 69 #[] #[] smallB digitB _ (asks_small _) (asks_digit _)).mono ?_
    rintro e w1 ⟨kE, cE, rfl, hE, hb1⟩
    go_wp2_with fail
    refine (cz _).mono ?_
    rintro e w' ⟨rfl, rfl⟩
    go_wp2_with fail
    refine (either_any kE 71 cE #[] edgeL dashB _ hE (asks_dash _)).mono ?_
    rintro e w2 ⟨kI, cI, rfl, hI, hb2⟩
    go_wp2_with fail
    refine (made_any s hs kE kI cE cI edgeL (orB edgeL dashB) _ (hE.later hb2) hI).mono ?_
    rintro e w' ⟨rfl, rfl⟩
    go_wp2
    go_ret
    exact ⟨ret_bool H.out.symm, hb1.trans (hb2.mono hb1.size)⟩

set_option maxHeartbeats 400000 in
theorem Verb_any (s : ByteArray) (hs : s.size ≤ maxLen) (w : World) :
    Calls Tryd.prog 36 #[.string s] w fun e w' => e = .returned (.bool (verbB s.data.toList)) ∧ w = w' := by
  have cz := fun w => sized_any s hs 1 32 (by omega) w
  cases hz : (decide (1 ≤ s.data.toList.length) && decide (s.data.toList.length ≤ 32)) with
  | false =>
    have H := Lib.hid (show verbB s.data.toList = false by unfold verbB; rw [hz]; rfl)
    rw [hz] at cz
    clear hz
    go_enter Tryd.func36, Tryd.ntmps36
    go_wp2_with fail
    refine (cz _).mono ?_
    rintro e w' ⟨rfl, rfl⟩
    go_wp2
    go_ret
    exact ⟨ret_bool H.out.symm, rfl⟩
  | true =>
    have H := Lib.hid (show verbB s.data.toList = madeB smallB smallB s.data.toList by unfold verbB; rw [hz]; rfl)
    rw [hz] at cz
    clear hz
    go_enter Tryd.func36, Tryd.ntmps36
    go_wp2_with fail
    refine (cz _).mono ?_
    rintro e w' ⟨rfl, rfl⟩
    go_wp2_with fail
    refine (all_any s hs 62 #[] smallB _ (asks_small _)).mono ?_
    rintro e w' ⟨rfl, rfl⟩
    go_wp2
    go_ret
    exact ⟨ret_bool H.out.symm, rfl⟩

set_option maxHeartbeats 400000 in
theorem Path_any (s : ByteArray) (hs : s.size ≤ maxLen) (w : World) :
    Calls Tryd.prog 37 #[.string s] w fun e w' => e = .returned (.bool (pathB s.data.toList)) ∧ w = w' := by
  have cz := fun w => sized_any s hs 1 512 (by omega) w
  cases hz : (decide (1 ≤ s.data.toList.length) && decide (s.data.toList.length ≤ 512)) with
  | false =>
    have H := Lib.hid (show pathB s.data.toList = false by unfold pathB; rw [hz]; rfl)
    rw [hz] at cz
    clear hz
    go_enter Tryd.func37, Tryd.ntmps37
    go_wp2_with fail
    refine (cz _).mono ?_
    rintro e w' ⟨rfl, rfl⟩
    go_wp2
    go_ret
    exact ⟨ret_bool H.out.symm, rfl⟩
  | true =>
    have cp := fun w => hasPrefix_any s ⟨#[47]⟩ w
    cases hp : Lib.hasPrefix s.data.toList [47] with
    | false =>
      have H := Lib.hid (show pathB s.data.toList = false by unfold pathB; rw [hz, hp]; rfl)
      have hp' : Lib.hasPrefix s.data.toList (⟨#[47]⟩ : ByteArray).data.toList = false := hp
      rw [hz] at cz
      rw [hp'] at cp
      clear hz hp hp'
      go_enter Tryd.func37, Tryd.ntmps37
      go_wp2_with fail
      refine (cz _).mono ?_
      rintro e w' ⟨rfl, rfl⟩
      go_wp2_with fail
      refine (cp _).mono ?_
      rintro e w' ⟨rfl, rfl⟩
      go_wp2
      go_ret
      exact ⟨ret_bool H.out.symm, rfl⟩
    | true =>
      have H := Lib.hid (show pathB s.data.toList = madeB seenB seenB s.data.toList by unfold pathB; rw [hz, hp]; rfl)
      have hp' : Lib.hasPrefix s.data.toList (⟨#[47]⟩ : ByteArray).data.toList = true := hp
      rw [hz] at cz
      rw [hp'] at cp
      clear hz hp hp'
      go_enter Tryd.func37, Tryd.ntmps37
      go_wp2_with fail
      refine (cz _).mono ?_
      rintro e w' ⟨rfl, rfl⟩
      go_wp2_with fail
      refine (cp _).mono ?_
      rintro e w' ⟨rfl, rfl⟩
      go_wp2_with fail
      refine (all_any s hs 63 #[] seenB _ (asks_seen _)).mono ?_
      rintro e w' ⟨rfl, rfl⟩
      go_wp2
      go_ret
      exact ⟨ret_bool H.out.symm, rfl⟩

set_option maxHeartbeats 400000 in
theorem Segment_any (s : ByteArray) (hs : s.size ≤ maxLen) (w : World) :
    Calls Tryd.prog 38 #[.string s] w fun e w' => e = .returned (.bool (segB s.data.toList)) ∧ Below w.heap.size w w' := by
  have cz := fun w => sized_any s hs 1 253 (by omega) w
  cases hz : (decide (1 ≤ s.data.toList.length) && decide (s.data.toList.length ≤ 253)) with
  | false =>
    have H := Lib.hid (show segB s.data.toList = false by unfold segB; rw [hz]; rfl)
    rw [hz] at cz
    clear hz
    go_enter Tryd.func38, Tryd.ntmps38
    go_wp2_with fail
    refine (cz _).mono ?_
    rintro e w' ⟨rfl, rfl⟩
    go_wp2
    go_ret
    exact ⟨ret_bool H.out.symm, Below.refl _ _⟩
  | true =>
    have ca := fun k ck w => all_any s hs k ck (butB seenB partB) w
    cases hm : madeB (butB seenB partB) (butB seenB partB) s.data.toList with
    | false =>
      have H := Lib.hid (show segB s.data.toList = false by unfold segB; rw [hz, hm]; rfl)
      rw [hz] at cz
      rw [hm] at ca
      clear hz hm
      go_enter Tryd.func38, Tryd.ntmps38
      go_wp2_with fail
      refine (cz _).mono ?_
      rintro e w' ⟨rfl, rfl⟩
      go_wp2_with fail
      refine (but_any 63 65 #[] #[] seenB partB _ (asks_seen _) (asks_parting _)).mono ?_
      rintro e w1 ⟨kA, cA, rfl, hA, hb1⟩
      go_wp2_with fail
      refine (ca kA cA _ hA).mono ?_
      rintro e w' ⟨rfl, rfl⟩
      go_wp2
      go_ret
      exact ⟨ret_bool H.out.symm, hb1⟩
    | true =>
      have H := Lib.hid (show segB s.data.toList = (!(s.data.toList == [46]) && !(s.data.toList == [46, 46])) by unfold segB; rw [hz, hm]; rfl)
      rw [hz] at cz
      rw [hm] at ca
      clear hz hm
      by_cases h1 : s.data.toList = [46]
      · have hs1 : s = ⟨#[46]⟩ := ByteArray.ext (Array.toList_inj.1 h1)
        subst hs1
        clear h1
        go_enter Tryd.func38, Tryd.ntmps38
        go_wp2_with fail
        refine (cz _).mono ?_
        rintro e w' ⟨rfl, rfl⟩
        go_wp2_with fail
        refine (but_any 63 65 #[] #[] seenB partB _ (asks_seen _) (asks_parting _)).mono ?_
        rintro e w1 ⟨kA, cA, rfl, hA, hb1⟩
        go_wp2_with fail
        refine (ca kA cA _ hA).mono ?_
        rintro e w' ⟨rfl, rfl⟩
        go_wp2
        go_ret
        exact ⟨ret_bool H.out.symm, hb1⟩
      · by_cases h2 : s.data.toList = [46, 46]
        · have hs2 : s = ⟨#[46, 46]⟩ := ByteArray.ext (Array.toList_inj.1 h2)
          subst hs2
          clear h1 h2
          go_enter Tryd.func38, Tryd.ntmps38
          go_wp2_with fail
          refine (cz _).mono ?_
          rintro e w' ⟨rfl, rfl⟩
          go_wp2_with fail
          refine (but_any 63 65 #[] #[] seenB partB _ (asks_seen _) (asks_parting _)).mono ?_
          rintro e w1 ⟨kA, cA, rfl, hA, hb1⟩
          go_wp2_with fail
          refine (ca kA cA _ hA).mono ?_
          rintro e w' ⟨rfl, rfl⟩
          go_wp2
          go_ret
          exact ⟨ret_bool H.out.symm, hb1⟩
        · have H1 := Lib.hid (show (!(s.data.toList == [46]) && !(s.data.toList == [46, 46])) = true by simp [h1, h2])
          have e1 : (s.toList == [46]) = false := by rw [ByteArray.toList_eq]; exact beq_eq_false_iff_ne.2 h1
          have e2 : (s.toList == [46, 46]) = false := by rw [ByteArray.toList_eq]; exact beq_eq_false_iff_ne.2 h2
          clear h1 h2
          go_enter Tryd.func38, Tryd.ntmps38
          go_wp2_with fail
          refine (cz _).mono ?_
          rintro e w' ⟨rfl, rfl⟩
          go_wp2_with fail
          refine (but_any 63 65 #[] #[] seenB partB _ (asks_seen _) (asks_parting _)).mono ?_
          rintro e w1 ⟨kA, cA, rfl, hA, hb1⟩
          go_wp2_with fail
          refine (ca kA cA _ hA).mono ?_
          rintro e w' ⟨rfl, rfl⟩
          go_wp2
          go_ret
          exact ⟨ret_bool (H.out.trans H1.out).symm, hb1⟩
end Go.Proofs.YthflpgeonllgdaaDoor.nam
