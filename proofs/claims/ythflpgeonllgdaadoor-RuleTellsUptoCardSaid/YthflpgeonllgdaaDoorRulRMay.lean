/- Layer 8: of the document: plain, resource, path. -/
import Derived.Test.YthflpgeonllgdaaDoorRulAny
import Derived.Test.YthflpgeonllgdaaDoorRulP
import Derived.Test.YthflpgeonllgdaaDoorNamRefS
namespace Go.Proofs.YthflpgeonllgdaaDoor.rul
open Go.RowKit Go.Proofs.YthflpgeonllgdaaDoor.rep Go.Proofs.YthflpgeonllgdaaDoor.lab

theorem starR_l (s : ByteArray) : starL s.data.toList = (s.toList == [42]) := by unfold starL; rw [ByteArray.toList_eq]
theorem rplain_any (s : ByteArray) (hs : s.size ≤ 1048576) (w : World) :
    Calls Tryd.prog 58 #[.string s] w fun e w' => e = .returned (.bool (plainL s.data.toList)) ∧ w = w' := by
  have c1 := fun w => nam.rSegment_any s (by unfold Go.maxLen; omega) w
  have c2 : ∀ w, Calls Tryd.prog 56 #[.string s] w fun e w' => e = .returned (.bool (starIn s.data.toList)) ∧ w = w' := fun w => rstar_any s (by omega) w
  have H := Lib.hid (show plainL s.data.toList = (nam.segB s.data.toList && !starIn s.data.toList) from rfl)
  generalize nam.segB s.data.toList = b1 at *
  generalize starIn s.data.toList = b2 at *
  cases b1 with
  | false =>
    go_enter Tryd.func58, Tryd.ntmps58
    go_wp2_with fail
    refine (c1 _).mono ?_
    rintro e w1 ⟨rfl, rfl⟩
    go_wp2_with fail
    refine (c2 _).mono ?_
    rintro e w1 ⟨rfl, rfl⟩
    go_wp2
    go_ret
    exact ⟨ret_bool H.out.symm, rfl⟩
  | true =>
    go_enter Tryd.func58, Tryd.ntmps58
    go_wp2_with fail
    refine (c1 _).mono ?_
    rintro e w1 ⟨rfl, rfl⟩
    go_wp2_with fail
    refine (c2 _).mono ?_
    rintro e w1 ⟨rfl, rfl⟩
    go_wp2
    go_ret
    exact ⟨ret_bool H.out.symm, rfl⟩
theorem last_off (s : ByteArray) : (s.extract 0 (s.size - 1)).data.toList = s.data.toList.take (s.data.toList.length - 1) := by
  rw [Lib.extract_data]; simp
theorem path_pos {s : ByteArray} (h : nam.pathB s.data.toList = true) : 0 < s.size := by
  have := (nam.pathB_iff.1 h).1.1
  have hl : s.data.toList.length = s.size := Array.length_toList
  omega
theorem rpath_any (s : ByteArray) (hs : s.size ≤ 1048576) (w : World) :
    Calls Tryd.prog 32 #[.string s] w fun e w' => e = .returned (.bool (pathE s.data.toList)) ∧ w = w' := by
  have c1 := fun w => nam.rPath_any s (by unfold Go.maxLen; omega) w
  have c2 := fun w => rstar_any (s.extract 0 (s.size - 1)) (by rw [ByteArray.size_extract]; omega) w
  have hst : hasStar (s.extract 0 (s.size - 1)) = starIn (s.data.toList.take (s.data.toList.length - 1)) := by unfold hasStar starIn; rw [last_off]
  rw [hst] at c2
  have H := Lib.hid (show pathE s.data.toList = (if (s.toList == [42]) = true then true else nam.pathB s.data.toList && !starIn (s.data.toList.take (s.data.toList.length - 1))) by rw [← refPath_eq, ← starR_l]; rfl)
  have HP := Lib.hid (@path_pos s)
  generalize starIn (s.data.toList.take (s.data.toList.length - 1)) = b2 at *
  cases e1 : (s.toList == [42]) with
  | true =>
    rw [e1] at H
    go_enter Tryd.func32, Tryd.ntmps32
    go_wp2
    go_ret
    exact ⟨ret_bool H.out.symm, rfl⟩
  | false =>
    rw [e1] at H
    cases e2 : nam.pathB s.data.toList with
    | false =>
      rw [e2] at H c1
      clear e2
      go_enter Tryd.func32, Tryd.ntmps32
      go_wp2_with fail
      refine (c1 _).mono ?_
      rintro e w1 ⟨rfl, rfl⟩
      go_wp2
      go_ret
      exact ⟨ret_bool H.out.symm, rfl⟩
    | true =>
      have hp := HP.out e2
      rw [e2] at H c1
      clear e2 hst
      go_enter Tryd.func32, Tryd.ntmps32
      go_wp2_with fail
      refine (c1 _).mono ?_
      rintro e w1 ⟨rfl, rfl⟩
      go_wp2_with fail
      refine (c2 _).mono ?_
      rintro e w1 ⟨rfl, rfl⟩
      go_wp2
      go_ret
      exact ⟨ret_bool H.out.symm, rfl⟩
end Go.Proofs.YthflpgeonllgdaaDoor.rul
