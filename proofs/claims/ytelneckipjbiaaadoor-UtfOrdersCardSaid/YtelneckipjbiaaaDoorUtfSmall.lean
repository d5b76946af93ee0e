/- Layer 1: the small functions of the laws: awake, short, same. -/
import Derived.Test.YtelneckipjbiaaaDoorUtfCut
import Derived.Test.YtelneckipjbiaaaDoorUtfRefN
namespace Go.Proofs.YtelneckipjbiaaaDoor.utf
open Go.RowKit

theorem fE1 : (⟨(enc 233).toArray⟩ : ByteArray) = ⟨#[195, 169]⟩ := by decide +kernel
theorem fE2 : isPt 233 = true := by decide +kernel
theorem fN : nxtAt ⟨#[195, 169]⟩ 0 = (233, 2) := by decide +kernel
theorem fV1 : okB [192, 128] = false := by decide +kernel
theorem fV2 : okB [] = true := by decide +kernel

set_option maxHeartbeats 1000000 in
/-- The chapter's examples hold. -/
theorem awake_any (w : World) (hT : Tab w) :
    Calls Tryd.prog 10 #[] w fun e w' => e = .returned (.bool true) ∧ Below w.heap.size w w' := by
  go_enter Tryd.func10, Tryd.ntmps10
  go_wp2_with fail
  refine (Encode_any 233 _ hT).mono ?_
  rintro e w1 ⟨rfl, hb1⟩
  rw [fE1, fE2]
  have hT1 := hT.self hb1
  go_wp2_with fail
  refine (Next_any ⟨#[195, 169]⟩ (by decide) 0 _ hT1).mono ?_
  rintro e w2 ⟨rfl, hb2⟩
  rw [fN]
  have hT2 := hT1.self hb2
  go_wp2_with fail
  refine (Valid_any ⟨#[192, 128]⟩ (by decide) _ hT2).mono ?_
  rintro e w3 ⟨rfl, hb3⟩
  have h3 : okB (⟨#[192, 128]⟩ : ByteArray).data.toList = false := fV1
  rw [h3]
  have hT3 := hT2.self hb3
  go_wp2_with fail
  refine (Valid_any ⟨#[]⟩ (by decide) _ hT3).mono ?_
  rintro e w4 ⟨rfl, hb4⟩
  have h4 : okB (⟨#[]⟩ : ByteArray).data.toList = true := fV2
  rw [h4]
  go_wp2
  go_ret
  exact ⟨rfl, ((hb1.trans (hb2.mono hb1.size)).trans (hb3.mono (Nat.le_trans hb1.size hb2.size))).trans (hb4.mono (Nat.le_trans (Nat.le_trans hb1.size hb2.size) hb3.size))⟩

set_option maxHeartbeats 400000 in
theorem short_any (s : ByteArray) (_hs : s.size ≤ maxLen) (n : Nat) (w : World) :
    Calls Tryd.prog 11 #[.string s, .int .i64 n] w fun e w' => e = .returned (.string (s.extract 0 n)) ∧ w' = w := by
  unfold maxLen at _hs
  by_cases h : n < s.size
  · go_enter Tryd.func11, Tryd.ntmps11
    go_wp2
    go_ret
    exact ⟨rfl, rfl⟩
  · have e : s.extract 0 n = s := by
      apply ByteArray.ext
      apply Array.toList_inj.1
      rw [Lib.extract_data, List.drop_zero, List.take_of_length_le]
      rw [Array.length_toList]
      show s.size ≤ _
      omega
    rw [e]
    clear e
    go_enter Tryd.func11, Tryd.ntmps11
    go_wp2
    go_ret
    exact ⟨rfl, rfl⟩
end Go.Proofs.YtelneckipjbiaaaDoor.utf
