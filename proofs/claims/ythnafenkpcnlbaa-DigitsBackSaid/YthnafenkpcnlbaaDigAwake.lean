/- Layer 2: the laws' awake: the chapter's examples hold. -/
import Derived.Test.YthnafenkpcnlbaaDigRead
namespace Go.Proofs.Ythnafenkpcnlbaa.dig
open Go.RowKit

theorem ex1 : pV (⟨#[45, 57, 50, 50, 51, 51, 55, 50, 48, 51, 54, 56, 53, 52, 55, 55, 53, 56, 48, 56]⟩ : ByteArray).data.toList = -9223372036854775808 := by decide +kernel
theorem ex1e : pE (⟨#[45, 57, 50, 50, 51, 51, 55, 50, 48, 51, 54, 56, 53, 52, 55, 55, 53, 56, 48, 56]⟩ : ByteArray).data.toList = 0 := by decide +kernel
theorem ex2e : pE (⟨#[48, 49]⟩ : ByteArray).data.toList = 10 := by decide +kernel
theorem ex3e : pE (⟨#[57, 50, 50, 51, 51, 55, 50, 48, 51, 54, 56, 53, 52, 55, 55, 53, 56, 48, 56]⟩ : ByteArray).data.toList = 16 := by decide +kernel
theorem ex4 : dV (-7) 2 = -3 := by decide +kernel
theorem ex4e : dE (-7) 2 = 0 := by decide +kernel
theorem ex5 : mV (-7) 2 = -1 := by decide +kernel
theorem ex5e : mE (-7) 2 = 0 := by decide +kernel
set_option maxHeartbeats 1000000 in
theorem awake_any (w : World) : Calls Try.prog 10 #[] w fun e w' => e = .returned (.bool true) ∧ w = w' := by
  go_enter Try.func10, Try.ntmps10
  go_wp2_with fail
  refine (Parse_any _ (by decide) _).mono ?_
  rintro e w' ⟨rfl, rfl⟩
  rw [ex1, ex1e]
  go_wp2_with fail
  refine (Parse_any _ (by decide) _).mono ?_
  rintro e w' ⟨rfl, rfl⟩
  rw [ex2e]
  go_wp2_with fail
  refine (Parse_any _ (by decide) _).mono ?_
  rintro e w' ⟨rfl, rfl⟩
  rw [ex3e]
  go_wp2_with fail
  refine (Div_any _ _ (by decide) (by decide) _).mono ?_
  rintro e w' ⟨rfl, rfl⟩
  rw [ex4, ex4e]
  go_wp2_with fail
  refine (Mod_any _ _ _).mono ?_
  rintro e w' ⟨rfl, rfl⟩
  rw [ex5, ex5e]
  go_wp2
  go_ret
  exact ⟨rfl, rfl⟩
end Go.Proofs.Ythnafenkpcnlbaa.dig
