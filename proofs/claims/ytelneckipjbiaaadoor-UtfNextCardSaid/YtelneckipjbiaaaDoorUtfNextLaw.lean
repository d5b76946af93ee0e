/- UtfNext: whatever the bytes (to 40), the place and the number, Next and Encode answer as the document's own Next and Encode. No condition but those of the row. -/
import Derived.Test.YtelneckipjbiaaaDoorUtfSmall
namespace Go.Proofs.YtelneckipjbiaaaDoor.utf
open Go.RowKit

set_option maxRecDepth 100000 in
set_option maxHeartbeats 2000000 in
theorem lawNext_walk (s : ByteArray) (hs : s.size ≤ maxLen) (at_ p : Int) (w : World) (hT : Tab w) :
    Calls Tryd.prog 3 #[.string s, .int .i64 at_, .int .i64 p] w fun e w' => e = .returned (.bool true) ∧ Below w.heap.size w w' := by
  have hs' : (s.extract 0 40).size ≤ maxLen := by
    rw [ByteArray.size_extract]; unfold maxLen; omega
  have Hs' := Lib.hid hs'
  clear hs'
  go_enter Tryd.func3, Tryd.ntmps3
  go_wp2_with fail
  refine (awake_any _ hT).mono ?_
  rintro e w1 ⟨rfl, hb1⟩
  have hT1 := hT.self hb1
  go_wp2_with fail
  refine (short_any s hs 40 _).mono ?_
  rintro e w2 ⟨rfl, rfl⟩
  generalize s.extract 0 40 = x at *
  go_wp2_with fail
  refine (Next_any x Hs'.out at_ _ hT1).mono ?_
  rintro e w3 ⟨rfl, hb3⟩
  have hT3 := hT1.self hb3
  have hB3 := hb1.trans (hb3.mono hb1.size)
  go_wp2_with fail
  refine (refNext_any x Hs'.out at_ _).mono ?_
  rintro e w4 ⟨rfl, hb4⟩
  have hT4 := hT3.self hb4
  have hB4 := hB3.trans (hb4.mono hB3.size)
  generalize nxtAt x at_ = pn at *
  unfold found
  go_wp2_with fail
  have hBa := hB4.alloc hB4.size (.cells #[.int .i64 (pn.1 : Nat), .int .i64 (pn.2 : Nat)] 27)
  have hTa := hT.self hBa
  have hbx0 := heap_alloc_new w4 (.cells #[.int .i64 (pn.1 : Nat), .int .i64 (pn.2 : Nat)] 27)
  refine (Encode_any p _ hTa).mono ?_
  rintro e w5 ⟨rfl, hb5⟩
  have hT5 := hTa.self hb5
  have hB5 := hBa.trans (hb5.mono hBa.size)
  have hbx1 := (hb5.block w4.heap.size (by simp)).trans hbx0
  go_wp2_with fail
  refine (refEncode_any p _).mono ?_
  rintro e w6 ⟨rfl, hb6⟩
  have hB6 := hB5.trans (hb6.mono hB5.size)
  have hbx2 := (hb6.block w4.heap.size (Array.getElem?_eq_some_iff.1 hbx1).1).trans hbx1
  obtain ⟨c0, c1, _, _⟩ := cells_of2 hbx2
  clear hbx0 hbx1 hbx2
  go_wp2
  go_ret
  exact ⟨rfl, hB6⟩
end Go.Proofs.YtelneckipjbiaaaDoor.utf
