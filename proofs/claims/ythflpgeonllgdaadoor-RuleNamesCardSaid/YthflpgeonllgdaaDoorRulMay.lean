/- Layer 8: rule's verb, group, resource, path, and what is asked of each entry. -/
import Derived.Test.YthflpgeonllgdaaDoorRulAny
import Derived.Test.YthflpgeonllgdaaDoorRulShelf
import Derived.Test.YthflpgeonllgdaaDoorNamSub
namespace Go.Proofs.YthflpgeonllgdaaDoor.rul
open Go.RowKit Go.Proofs.YthflpgeonllgdaaDoor.rep Go.Proofs.YthflpgeonllgdaaDoor.lab

theorem star_l (s : ByteArray) : starL s.data.toList = (s.toList == [42]) := by unfold starL; rw [ByteArray.toList_eq]
theorem empty_l (s : ByteArray) : s.data.toList.isEmpty = s.toList.isEmpty := by rw [ByteArray.toList_eq]
theorem verb_any (s : ByteArray) (hs : s.size ≤ 1048576) (w : World) :
    Calls Tryd.prog 28 #[.string s] w fun e w' => e = .returned (.bool (verbE s.data.toList)) ∧ Below w.heap.size w w' := by
  have cv := fun w => nam.Verb_any s (by unfold Go.maxLen; omega) w
  cases e1 : (s.toList == [42]) with
  | true =>
    have H := Lib.hid (show verbE s.data.toList = true by unfold verbE; rw [star_l, e1]; rfl)
    go_enter Tryd.func28, Tryd.ntmps28
    go_wp2
    go_ret
    exact ⟨ret_bool H.out.symm, Below.refl _ _⟩
  | false =>
    have H := Lib.hid (show verbE s.data.toList = nam.verbB s.data.toList by unfold verbE; rw [star_l, e1]; rfl)
    go_enter Tryd.func28, Tryd.ntmps28
    go_wp2_with fail
    refine (cv _).mono ?_
    rintro e w1 ⟨rfl, rfl⟩
    go_wp2
    go_ret
    exact ⟨ret_bool H.out.symm, Below.refl _ _⟩
theorem plain_any (s : ByteArray) (hs : s.size ≤ 1048576) (w : World) :
    Calls Tryd.prog 80 #[.string s] w fun e w' => e = .returned (.bool (plainL s.data.toList)) ∧ Below w.heap.size w w' := by
  have cs := fun w => nam.Segment_any s (by unfold Go.maxLen; omega) w
  have cc := fun w => contains_any s w
  have H := Lib.hid (show plainL s.data.toList = (nam.segB s.data.toList && !starIn s.data.toList) from rfl)
  generalize nam.segB s.data.toList = b1 at *
  generalize starIn s.data.toList = b2 at *
  cases b1 with
  | false =>
    go_enter Tryd.func80, Tryd.ntmps80
    go_wp2_with fail
    refine (cs _).mono ?_
    rintro e w1 ⟨rfl, hb1⟩
    go_wp2
    go_ret
    exact ⟨ret_bool H.out.symm, hb1⟩
  | true =>
    go_enter Tryd.func80, Tryd.ntmps80
    go_wp2_with fail
    refine (cs _).mono ?_
    rintro e w1 ⟨rfl, hb1⟩
    go_wp2_with fail
    refine (cc _).mono ?_
    rintro e w2 ⟨rfl, rfl⟩
    go_wp2
    go_ret
    exact ⟨ret_bool H.out.symm, hb1⟩
theorem path_any (s : ByteArray) (hs : s.size ≤ 1048576) (w : World) :
    Calls Tryd.prog 55 #[.string s] w fun e w' => e = .returned (.bool (pathE s.data.toList)) ∧ Below w.heap.size w w' := by
  have cp := fun w => nam.Path_any s (by unfold Go.maxLen; omega) w
  have ct := fun w => trim_any s (by omega) w
  have cc : ∀ w, Calls Tryd.prog 81 #[.string ⟨(trimL s.data.toList).toArray⟩, .string ⟨#[42]⟩] w fun e w' => e = .returned (.bool (starIn (trimL s.data.toList))) ∧ w = w' := fun w => contains_any ⟨(trimL s.data.toList).toArray⟩ w
  have H := Lib.hid (show pathE s.data.toList = (starL s.data.toList || (nam.pathB s.data.toList && !starIn (trimL s.data.toList))) from rfl)
  rw [star_l] at H
  cases e1 : (s.toList == [42]) with
  | true =>
    have H1 := Lib.hid (show pathE s.data.toList = true by rw [H.out, e1]; rfl)
    go_enter Tryd.func55, Tryd.ntmps55
    go_wp2
    go_ret
    exact ⟨ret_bool H1.out.symm, Below.refl _ _⟩
  | false =>
    have H1 := Lib.hid (show pathE s.data.toList = (nam.pathB s.data.toList && !starIn (trimL s.data.toList)) by rw [H.out, e1]; rfl)
    clear H
    generalize nam.pathB s.data.toList = b1 at *
    generalize starIn (trimL s.data.toList) = b2 at *
    cases b1 with
    | false =>
      go_enter Tryd.func55, Tryd.ntmps55
      go_wp2_with fail
      refine (cp _).mono ?_
      rintro e w1 ⟨rfl, rfl⟩
      go_wp2
      go_ret
      exact ⟨ret_bool H1.out.symm, Below.refl _ _⟩
    | true =>
      go_enter Tryd.func55, Tryd.ntmps55
      go_wp2_with fail
      refine (cp _).mono ?_
      rintro e w1 ⟨rfl, rfl⟩
      go_wp2_with fail
      refine (ct _).mono ?_
      rintro e w1 ⟨rfl, rfl⟩
      go_wp2_with fail
      refine (cc _).mono ?_
      rintro e w1 ⟨rfl, rfl⟩
      go_wp2
      go_ret
      exact ⟨ret_bool H1.out.symm, Below.refl _ _⟩
theorem cut_size (s : ByteArray) : (Lib.cut s.data.toList [47]).1.length ≤ s.size ∧ (Lib.cut s.data.toList [47]).2.1.length ≤ s.size := by
  have hl : s.data.toList.length = s.size := Array.length_toList
  unfold Lib.cut
  split <;> simp <;> omega
theorem star_mk (l : List UInt8) : ((⟨l.toArray⟩ : ByteArray).toList == [42]) = starL l := by rw [← star_l]
set_option maxHeartbeats 1000000 in
theorem resource_any (s : ByteArray) (hs : s.size ≤ 1048576) (w : World) (hm : nam.MaxL w) :
    Calls Tryd.prog 54 #[.string s] w fun e w' => e = .returned (.bool (resE s.data.toList)) ∧ Below w.heap.size w w' := by
  have cc : ∀ w, nam.MaxL w → Calls Tryd.prog 79 #[.string s, .string ⟨#[47]⟩] w fun e w' => e = .returned (.tuple #[.string ⟨(Lib.cut s.data.toList [47]).1.toArray⟩, .string ⟨(Lib.cut s.data.toList [47]).2.1.toArray⟩, .bool (Lib.cut s.data.toList [47]).2.2]) ∧ ∃ n, w' = w.drewN n := fun w hm => nam.cut_any s ⟨#[47]⟩ w (by omega) hm
  obtain ⟨l1, l2⟩ := cut_size s
  have H := Lib.hid (show resE s.data.toList = ((starL (Lib.cut s.data.toList [47]).1 || plainL (Lib.cut s.data.toList [47]).1) && (!(Lib.cut s.data.toList [47]).2.2 || plainL (Lib.cut s.data.toList [47]).2.1)) from rfl)
  generalize (Lib.cut s.data.toList [47]).1 = x at *
  generalize (Lib.cut s.data.toList [47]).2.1 = y at *
  generalize (Lib.cut s.data.toList [47]).2.2 = z at *
  have cx : ∀ w, Calls Tryd.prog 80 #[.string ⟨x.toArray⟩] w fun e w' => e = .returned (.bool (plainL x)) ∧ Below w.heap.size w w' := fun w => plain_any ⟨x.toArray⟩ (by have := nam.size_mk x; omega) w
  have cy : ∀ w, Calls Tryd.prog 80 #[.string ⟨y.toArray⟩] w fun e w' => e = .returned (.bool (plainL y)) ∧ Below w.heap.size w w' := fun w => plain_any ⟨y.toArray⟩ (by have := nam.size_mk y; omega) w
  have hsx := star_mk x
  have hsy : (x == [42]) = starL x := rfl
  generalize plainL x = b1 at *
  generalize plainL y = b2 at *
  clear l1 l2 hs
  cases e1 : starL x with
  | true =>
    rw [e1] at H hsx hsy
    cases z with
    | false =>
      go_enter Tryd.func54, Tryd.ntmps54
      go_wp2_with fail
      refine (cc _ hm).mono ?_
      rintro e w1 ⟨rfl, n, hw1⟩
      have hb1 : Below w.heap.size w w1 := by rw [hw1]; exact nam.below_drewN w n
      clear hw1
      go_wp2
      go_ret
      exact ⟨ret_bool H.out.symm, hb1⟩
    | true =>
      go_enter Tryd.func54, Tryd.ntmps54
      go_wp2_with fail
      refine (cc _ hm).mono ?_
      rintro e w1 ⟨rfl, n, hw1⟩
      have hb1 : Below w.heap.size w w1 := by rw [hw1]; exact nam.below_drewN w n
      clear hw1
      go_wp2_with fail
      refine (cy _).mono ?_
      rintro e w2 ⟨rfl, hb2⟩
      go_wp2
      go_ret
      exact ⟨ret_bool H.out.symm, chain hb1 hb2⟩
  | false =>
    rw [e1] at H hsx hsy
    cases b1 with
    | false =>
      go_enter Tryd.func54, Tryd.ntmps54
      go_wp2_with fail
      refine (cc _ hm).mono ?_
      rintro e w1 ⟨rfl, n, hw1⟩
      have hb1 : Below w.heap.size w w1 := by rw [hw1]; exact nam.below_drewN w n
      clear hw1
      go_wp2_with fail
      refine (cx _).mono ?_
      rintro e w2 ⟨rfl, hb2⟩
      go_wp2
      go_ret
      exact ⟨ret_bool H.out.symm, chain hb1 hb2⟩
    | true =>
      cases z with
      | false =>
        go_enter Tryd.func54, Tryd.ntmps54
        go_wp2_with fail
        refine (cc _ hm).mono ?_
        rintro e w1 ⟨rfl, n, hw1⟩
        have hb1 : Below w.heap.size w w1 := by rw [hw1]; exact nam.below_drewN w n
        clear hw1
        go_wp2_with fail
        refine (cx _).mono ?_
        rintro e w2 ⟨rfl, hb2⟩
        go_wp2
        go_ret
        exact ⟨ret_bool H.out.symm, chain hb1 hb2⟩
      | true =>
        go_enter Tryd.func54, Tryd.ntmps54
        go_wp2_with fail
        refine (cc _ hm).mono ?_
        rintro e w1 ⟨rfl, n, hw1⟩
        have hb1 : Below w.heap.size w w1 := by rw [hw1]; exact nam.below_drewN w n
        clear hw1
        go_wp2_with fail
        refine (cx _).mono ?_
        rintro e w2 ⟨rfl, hb2⟩
        go_wp2_with fail
        refine (cy _).mono ?_
        rintro e w3 ⟨rfl, hb3⟩
        go_wp2
        go_ret
        exact ⟨ret_bool H.out.symm, chain (chain hb1 hb2) hb3⟩
end Go.Proofs.YthflpgeonllgdaaDoor.rul
