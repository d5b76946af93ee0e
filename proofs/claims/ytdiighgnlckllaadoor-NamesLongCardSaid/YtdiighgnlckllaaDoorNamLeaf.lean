/- Layer 3: the contracts of names' functions of bytes, of the closures over two of them, of made, sized and all. -/
import Derived.Test.YtdiighgnlckllaaDoorNamPure
import Derived.Test.YtdiighgnlckllaaDoorRows
import Derived.WalkKit
import Derived.WalkSpells
import Derived.WalkLawsBesides
import Derived.Below
import Derived.Lib.Hide
import Derived.IntWalk
import Derived.Shelf.Abstract
namespace Go.Proofs.YtdiighgnlckllaaDoor.nam
open Go.RowKit Go.Shelf

theorem ret_bool {a b : Bool} (h : a = b) : Ending.returned (.bool a) = .returned (.bool b) := by rw [h]

theorem small_any (b : Nat) (_hb : b < 256) (w : World) : Calls Tryd.prog 28 #[.int .u8 b] w fun e w' => e = .returned (.bool (smallB b)) ∧ w = w' := by
  by_cases h1 : (97 : Int) ≤ b
  · by_cases h2 : (b : Int) ≤ 122
    · have H := Lib.hid (show smallB b = true from decide_eq_true (by omega))
      go_enter Tryd.func28, Tryd.ntmps28
      go_wp2
      go_ret
      exact ⟨ret_bool H.out.symm, rfl⟩
    · have H := Lib.hid (show smallB b = false from decide_eq_false (by omega))
      go_enter Tryd.func28, Tryd.ntmps28
      go_wp2
      go_ret
      exact ⟨ret_bool H.out.symm, rfl⟩
  · have H := Lib.hid (show smallB b = false from decide_eq_false (by omega))
    go_enter Tryd.func28, Tryd.ntmps28
    go_wp2
    go_ret
    exact ⟨ret_bool H.out.symm, rfl⟩
theorem great_any (b : Nat) (_hb : b < 256) (w : World) : Calls Tryd.prog 41 #[.int .u8 b] w fun e w' => e = .returned (.bool (greatB b)) ∧ w = w' := by
  by_cases h1 : (65 : Int) ≤ b
  · by_cases h2 : (b : Int) ≤ 90
    · have H := Lib.hid (show greatB b = true from decide_eq_true (by omega))
      go_enter Tryd.func41, Tryd.ntmps41
      go_wp2
      go_ret
      exact ⟨ret_bool H.out.symm, rfl⟩
    · have H := Lib.hid (show greatB b = false from decide_eq_false (by omega))
      go_enter Tryd.func41, Tryd.ntmps41
      go_wp2
      go_ret
      exact ⟨ret_bool H.out.symm, rfl⟩
  · have H := Lib.hid (show greatB b = false from decide_eq_false (by omega))
    go_enter Tryd.func41, Tryd.ntmps41
    go_wp2
    go_ret
    exact ⟨ret_bool H.out.symm, rfl⟩
theorem digit_any (b : Nat) (_hb : b < 256) (w : World) : Calls Tryd.prog 29 #[.int .u8 b] w fun e w' => e = .returned (.bool (digitB b)) ∧ w = w' := by
  by_cases h1 : (48 : Int) ≤ b
  · by_cases h2 : (b : Int) ≤ 57
    · have H := Lib.hid (show digitB b = true from decide_eq_true (by omega))
      go_enter Tryd.func29, Tryd.ntmps29
      go_wp2
      go_ret
      exact ⟨ret_bool H.out.symm, rfl⟩
    · have H := Lib.hid (show digitB b = false from decide_eq_false (by omega))
      go_enter Tryd.func29, Tryd.ntmps29
      go_wp2
      go_ret
      exact ⟨ret_bool H.out.symm, rfl⟩
  · have H := Lib.hid (show digitB b = false from decide_eq_false (by omega))
    go_enter Tryd.func29, Tryd.ntmps29
    go_wp2
    go_ret
    exact ⟨ret_bool H.out.symm, rfl⟩
theorem seen_any (b : Nat) (_hb : b < 256) (w : World) : Calls Tryd.prog 38 #[.int .u8 b] w fun e w' => e = .returned (.bool (seenB b)) ∧ w = w' := by
  by_cases h1 : (33 : Int) ≤ b
  · by_cases h2 : (b : Int) ≤ 126
    · have H := Lib.hid (show seenB b = true from decide_eq_true (by omega))
      go_enter Tryd.func38, Tryd.ntmps38
      go_wp2
      go_ret
      exact ⟨ret_bool H.out.symm, rfl⟩
    · have H := Lib.hid (show seenB b = false from decide_eq_false (by omega))
      go_enter Tryd.func38, Tryd.ntmps38
      go_wp2
      go_ret
      exact ⟨ret_bool H.out.symm, rfl⟩
  · have H := Lib.hid (show seenB b = false from decide_eq_false (by omega))
    go_enter Tryd.func38, Tryd.ntmps38
    go_wp2
    go_ret
    exact ⟨ret_bool H.out.symm, rfl⟩
theorem dash_any (b : Nat) (_hb : b < 256) (w : World) : Calls Tryd.prog 32 #[.int .u8 b] w fun e w' => e = .returned (.bool (dashB b)) ∧ w = w' := by
  by_cases h : b = 45
  · subst h
    go_enter Tryd.func32, Tryd.ntmps32
    go_wp2
    go_ret
    exact ⟨rfl, rfl⟩
  · have H := Lib.hid (show dashB b = false from decide_eq_false h)
    have e : ((b : Int) == 45) = false := beq_eq_false_iff_ne.2 (by omega)
    clear h
    go_enter Tryd.func32, Tryd.ntmps32
    go_wp2
    go_ret
    exact ⟨ret_bool H.out.symm, rfl⟩
theorem joining_any (b : Nat) (_hb : b < 256) (w : World) : Calls Tryd.prog 42 #[.int .u8 b] w fun e w' => e = .returned (.bool (joinB b)) ∧ w = w' := by
  by_cases h : b = 45 ∨ b = 95 ∨ b = 46
  · rcases h with rfl | rfl | rfl <;>
    · go_enter Tryd.func42, Tryd.ntmps42
      go_wp2
      go_ret
      exact ⟨rfl, rfl⟩
  · have H := Lib.hid (show joinB b = false from decide_eq_false h)
    have e : ((b : Int) == 45) = false := beq_eq_false_iff_ne.2 (by omega)
    have e2 : ((b : Int) == 95) = false := beq_eq_false_iff_ne.2 (by omega)
    have e3 : ((b : Int) == 46) = false := beq_eq_false_iff_ne.2 (by omega)
    clear h
    go_enter Tryd.func42, Tryd.ntmps42
    go_wp2
    go_ret
    exact ⟨ret_bool H.out.symm, rfl⟩
theorem parting_any (b : Nat) (_hb : b < 256) (w : World) : Calls Tryd.prog 39 #[.int .u8 b] w fun e w' => e = .returned (.bool (partB b)) ∧ w = w' := by
  by_cases h : b = 47 ∨ b = 37
  · rcases h with rfl | rfl <;>
    · go_enter Tryd.func39, Tryd.ntmps39
      go_wp2
      go_ret
      exact ⟨rfl, rfl⟩
  · have H := Lib.hid (show partB b = false from decide_eq_false h)
    have e : ((b : Int) == 47) = false := beq_eq_false_iff_ne.2 (by omega)
    have e2 : ((b : Int) == 37) = false := beq_eq_false_iff_ne.2 (by omega)
    clear h
    go_enter Tryd.func39, Tryd.ntmps39
    go_wp2
    go_ret
    exact ⟨ret_bool H.out.symm, rfl⟩

theorem sized_any (s : ByteArray) (_hs : s.size ≤ maxLen) (least most : Nat) (_h2 : most ≤ 1000) (w : World) :
    Calls Tryd.prog 30 #[.string s, .int .i64 least, .int .i64 most] w fun e w' => e = .returned (.bool (decide (least ≤ s.data.toList.length) && decide (s.data.toList.length ≤ most))) ∧ w = w' := by
  unfold maxLen at _hs
  have Hl : Hid (s.data.toList.length = s.size) := Array.length_toList
  by_cases h1 : least ≤ s.size
  · by_cases h2 : s.size ≤ most
    · have H := Lib.hid (show (decide (least ≤ s.data.toList.length) && decide (s.data.toList.length ≤ most)) = true by rw [Hl.out, decide_eq_true h1, decide_eq_true h2]; rfl)
      go_enter Tryd.func30, Tryd.ntmps30
      go_wp2
      go_ret
      exact ⟨ret_bool H.out.symm, rfl⟩
    · have H := Lib.hid (show (decide (least ≤ s.data.toList.length) && decide (s.data.toList.length ≤ most)) = false by rw [Hl.out, decide_eq_false h2, Bool.and_false])
      go_enter Tryd.func30, Tryd.ntmps30
      go_wp2
      go_ret
      exact ⟨ret_bool H.out.symm, rfl⟩
  · have H := Lib.hid (show (decide (least ≤ s.data.toList.length) && decide (s.data.toList.length ≤ most)) = false by rw [Hl.out, decide_eq_false h1, Bool.false_and])
    go_enter Tryd.func30, Tryd.ntmps30
    go_wp2
    go_ret
    exact ⟨ret_bool H.out.symm, rfl⟩

/-- A function value answers p at each byte, in this world and in each that has more. -/
def Asks (k : FuncId) (cap : Array Value) (p : Nat → Bool) (w : World) : Prop :=
  (∀ args W, (callFunc k args).run Tryd.prog W = .ok (.enter k args) W) ∧
  ∀ (W : World) (b : Nat), b < 256 → Below w.heap.size w W → Calls Tryd.prog k (#[.int .u8 b] ++ cap) W fun e W' => e = .returned (.bool (p b)) ∧ W = W'
theorem Asks.later {k : FuncId} {cap : Array Value} {p : Nat → Bool} {w W : World} (h : Asks k cap p w) (hb : Below w.heap.size w W) : Asks k cap p W :=
  ⟨h.1, fun W' b hx hb' => h.2 W' b hx (hb.trans (hb'.mono hb.size))⟩
theorem asks_small (w : World) : Asks 28 #[] smallB w := ⟨enters_of Tryd.func28 (by kernel_rfl) rfl, fun W b hb _ => small_any b hb W⟩
theorem asks_great (w : World) : Asks 41 #[] greatB w := ⟨enters_of Tryd.func41 (by kernel_rfl) rfl, fun W b hb _ => great_any b hb W⟩
theorem asks_digit (w : World) : Asks 29 #[] digitB w := ⟨enters_of Tryd.func29 (by kernel_rfl) rfl, fun W b hb _ => digit_any b hb W⟩
theorem asks_seen (w : World) : Asks 38 #[] seenB w := ⟨enters_of Tryd.func38 (by kernel_rfl) rfl, fun W b hb _ => seen_any b hb W⟩
theorem asks_dash (w : World) : Asks 32 #[] dashB w := ⟨enters_of Tryd.func32 (by kernel_rfl) rfl, fun W b hb _ => dash_any b hb W⟩
theorem asks_joining (w : World) : Asks 42 #[] joinB w := ⟨enters_of Tryd.func42 (by kernel_rfl) rfl, fun W b hb _ => joining_any b hb W⟩
theorem asks_parting (w : World) : Asks 39 #[] partB w := ⟨enters_of Tryd.func39 (by kernel_rfl) rfl, fun W b hb _ => parting_any b hb W⟩
end Go.Proofs.YtdiighgnlckllaaDoor.nam
