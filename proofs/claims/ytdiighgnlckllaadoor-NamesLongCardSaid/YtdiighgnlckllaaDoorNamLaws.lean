/- Layer 3: the walks of NamesLabels and NamesOthers. -/
import Derived.Test.YtdiighgnlckllaaDoorNamAwake
namespace Go.Proofs.YtdiighgnlckllaaDoor.nam
open Go.RowKit Go.Shelf

set_option maxHeartbeats 2000000 in
theorem labels_walk (s : ByteArray) (more : Int) (w : World) (hm : MaxL w) :
    Calls Tryd.prog 3 #[.string s, .int .i64 more] w fun e w' => e = .returned (.bool true) ∧ Below w.heap.size w w' := by
  go_enter Tryd.func3, Tryd.ntmps3
  go_wp2_with fail
  refine (awake_any _ hm).mono ?_
  rintro e w1 ⟨rfl, hb1⟩
  have hm1 := hm.later hb1
  go_wp2_with fail
  refine (long_any s more _).mono ?_
  rintro e w2 ⟨t, ht, rfl, hb2⟩
  have hm2 := hm1.later hb2
  go_wp2_with fail
  refine (Label_any t (by unfold maxLen; omega) _).mono ?_
  rintro e w3 ⟨rfl, hb3⟩
  have hm3 := hm2.later hb3
  go_wp2_with fail
  refine (rLabel_any t (by unfold maxLen; omega) _).mono ?_
  rintro e w' ⟨rfl, rfl⟩
  go_wp2_with fail
  refine (Subdomain_any t (by omega) _ hm3).mono ?_
  rintro e w4 ⟨rfl, hb4⟩
  go_wp2_with fail
  refine (rSubdomain_any t (by omega) _).mono ?_
  rintro e w5 ⟨rfl, hb5⟩
  go_wp2
  go_ret
  exact ⟨rfl, chain (chain (chain (chain hb1 hb2) hb3) hb4) hb5⟩

set_option maxHeartbeats 2000000 in
theorem others_walk (s : ByteArray) (more : Int) (w : World) (hm : MaxL w) :
    Calls Tryd.prog 4 #[.string s, .int .i64 more] w fun e w' => e = .returned (.bool true) ∧ Below w.heap.size w w' := by
  go_enter Tryd.func4, Tryd.ntmps4
  go_wp2_with fail
  refine (awake_any _ hm).mono ?_
  rintro e w1 ⟨rfl, hb1⟩
  have hm1 := hm.later hb1
  go_wp2_with fail
  refine (long_any s more _).mono ?_
  rintro e w2 ⟨t, ht, rfl, hb2⟩
  have hm2 := hm1.later hb2
  have Ht := Lib.hid (show t.size ≤ maxLen by unfold maxLen; omega)
  go_wp2_with fail
  refine (Segment_any t Ht.out _).mono ?_
  rintro e w3 ⟨rfl, hb3⟩
  have hm3 := hm2.later hb3
  go_wp2_with fail
  refine (rSegment_any t Ht.out _).mono ?_
  rintro e w' ⟨rfl, rfl⟩
  go_wp2_with fail
  refine (LabelValue_any t Ht.out _).mono ?_
  rintro e w4 ⟨rfl, hb4⟩
  have hm4 := hm3.later hb4
  go_wp2_with fail
  refine (rLabelValue_any t Ht.out _).mono ?_
  rintro e w' ⟨rfl, rfl⟩
  go_wp2_with fail
  refine (LabelKey_any t (by omega) _ hm4).mono ?_
  rintro e w5 ⟨rfl, hb5⟩
  go_wp2_with fail
  refine (rLabelKey_any t (by omega) _).mono ?_
  rintro e w6 ⟨rfl, hb6⟩
  go_wp2_with fail
  refine (Verb_any t Ht.out _).mono ?_
  rintro e w' ⟨rfl, rfl⟩
  go_wp2_with fail
  refine (rVerb_any t Ht.out _).mono ?_
  rintro e w' ⟨rfl, rfl⟩
  go_wp2_with fail
  refine (Path_any t Ht.out _).mono ?_
  rintro e w' ⟨rfl, rfl⟩
  go_wp2_with fail
  refine (rPath_any t Ht.out _).mono ?_
  rintro e w' ⟨rfl, rfl⟩
  go_wp2
  go_ret
  exact ⟨rfl, chain (chain (chain (chain (chain hb1 hb2) hb3) hb4) hb5) hb6⟩
end Go.Proofs.YtdiighgnlckllaaDoor.nam
