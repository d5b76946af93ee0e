/- Layer 3: the laws' awake: the chapter's examples hold. -/
import Derived.Test.YtdiighgnlckllaaDoorNamLong
namespace Go.Proofs.YtdiighgnlckllaaDoor.nam
open Go.RowKit Go.Shelf

theorem ex1 : subB (⟨#[97, 46, 98, 45, 99]⟩ : ByteArray).data.toList = true := by decide +kernel
theorem ex2 : subB (⟨#[97, 46, 46, 98]⟩ : ByteArray).data.toList = false := by decide +kernel
theorem ex3 : keyB (⟨#[97, 46, 98, 47, 99, 95, 100]⟩ : ByteArray).data.toList = true := by decide +kernel
theorem ex4 : verbB (⟨#[103, 101, 116]⟩ : ByteArray).data.toList = true := by decide +kernel
theorem ex5 : pathB (⟨#[47, 104, 101, 97, 108, 116, 104, 122]⟩ : ByteArray).data.toList = true := by decide +kernel
theorem ex6 : segB (⟨#[97, 58, 98]⟩ : ByteArray).data.toList = true := by decide +kernel
theorem ex7 : labB (⟨#[97]⟩ : ByteArray).data.toList = true := by decide +kernel
theorem chain {a b c : World} (h : Below a.heap.size a b) (k : Below b.heap.size b c) : Below a.heap.size a c := h.trans (k.mono h.size)
set_option maxHeartbeats 1000000 in
theorem awake_any (w : World) (hm : MaxL w) : Calls Tryd.prog 9 #[] w fun e w' => e = .returned (.bool true) ∧ Below w.heap.size w w' := by
  go_enter Tryd.func9, Tryd.ntmps9
  go_wp2_with fail
  refine (Subdomain_any _ (by decide) _ hm).mono ?_
  rintro e w1 ⟨rfl, hb1⟩
  rw [ex1]
  have hm1 := hm.later hb1
  go_wp2_with fail
  refine (Subdomain_any _ (by decide) _ hm1).mono ?_
  rintro e w2 ⟨rfl, hb2⟩
  rw [ex2]
  have hm2 := hm1.later hb2
  go_wp2_with fail
  refine (LabelKey_any _ (by decide) _ hm2).mono ?_
  rintro e w3 ⟨rfl, hb3⟩
  rw [ex3]
  go_wp2_with fail
  refine (Verb_any _ (by decide) _).mono ?_
  rintro e w' ⟨rfl, rfl⟩
  rw [ex4]
  go_wp2_with fail
  refine (Path_any _ (by decide) _).mono ?_
  rintro e w' ⟨rfl, rfl⟩
  rw [ex5]
  go_wp2_with fail
  refine (Segment_any _ (by decide) _).mono ?_
  rintro e w4 ⟨rfl, hb4⟩
  rw [ex6]
  go_wp2_with fail
  refine (Label_any _ (by decide) _).mono ?_
  rintro e w5 ⟨rfl, hb5⟩
  rw [ex7]
  go_wp2
  go_ret
  exact ⟨rfl, chain (chain (chain (chain hb1 hb2) hb3) hb4) hb5⟩
end Go.Proofs.YtdiighgnlckllaaDoor.nam
