/- Layer 3: the contracts of names' functions of bytes, of the closures over two of them, of made, sized and all. -/
import Derived.Test.YthflpgeonllgdaaDoorNamPure
import Derived.Test.YthflpgeonllgdaaDoorRows
import Derived.WalkKit
import Derived.WalkSpells
import Derived.WalkLawsBesides
import Derived.Below
import Derived.Lib.Hide
import Derived.IntWalk
import Derived.Shelf.Abstract
namespace Go.Proofs.YthflpgeonllgdaaDoor.nam
open Go.RowKit Go.Shelf

theorem ret_bool {a b : Bool} (h : a = b) : Ending.returned (.bool a) = .returned (.bool b) := by rw [h]

theorem small_any (b : Nat) (_hb : b < 256) (w : World) : Calls Tryd.prog 62 #[.int .u8 b] w fun e w' => e = .returned (.bool (smallB b)) ∧ w = w' := by
  by_cases h1 : (97 : Int) ≤ b
  · by_cases h2 : (b : Int) ≤ 122
    · have H := Lib.hid (show smallB b = true from decide_eq_true (by omega))
      go_enter Tryd.func62, Tryd.ntmps62
      go_wp2
      go_ret
      exact ⟨ret_bool H.out.symm, rfl⟩
    · have H := Lib.hid (show smallB b = false from decide_eq_false (by omega))
      go_enter Tryd.func62, Tryd.ntmps62
      go_wp2
      go_ret
      exact ⟨ret_bool H.out.symm, rfl⟩
  · have H := Lib.hid (show smallB b = false from decide_eq_false (by omega))
    go_enter Tryd.func62, Tryd.ntmps62
    go_wp2
    go_ret
    exact ⟨ret_bool H.out.symm, rfl⟩
theorem digit_any (b : Nat) (_hb : b < 256) (w : World) : Calls Tryd.prog 69 #[.int .u8 b] w fun e w' => e = .returned (.bool (digitB b)) ∧ w = w' := by
  by_cases h1 : (48 : Int) ≤ b
  · by_cases h2 : (b : Int) ≤ 57
    · have H := Lib.hid (show digitB b = true from decide_eq_true (by omega))
      go_enter Tryd.func69, Tryd.ntmps69
      go_wp2
      go_ret
      exact ⟨ret_bool H.out.symm, rfl⟩
    · have H := Lib.hid (show digitB b = false from decide_eq_false (by omega))
      go_enter Tryd.func69, Tryd.ntmps69
      go_wp2
      go_ret
      exact ⟨ret_bool H.out.symm, rfl⟩
  · have H := Lib.hid (show digitB b = false from decide_eq_false (by omega))
    go_enter Tryd.func69, Tryd.ntmps69
    go_wp2
    go_ret
    exact ⟨ret_bool H.out.symm, rfl⟩
theorem seen_any (b : Nat) (_hb : b < 256) (w : World) : Calls Tryd.prog 63 #[.int .u8 b] w fun e w' => e = .returned (.bool (seenB b)) ∧ w = w' := by
  by_cases h1 : (33 : Int) ≤ b
  · by_cases h2 : (b : Int) ≤ 126
    · have H := Lib.hid (show seenB b = true from decide_eq_true (by omega))
      go_enter Tryd.func63, Tryd.ntmps63
      go_wp2
      go_ret
      exact ⟨ret_bool H.out.symm, rfl⟩
    · have H := Lib.hid (show seenB b = false from decide_eq_false (by omega))
      go_enter Tryd.func63, Tryd.ntmps63
      go_wp2
      go_ret
      exact ⟨ret_bool H.out.symm, rfl⟩
  · have H := Lib.hid (show seenB b = false from decide_eq_false (by omega))
    go_enter Tryd.func63, Tryd.ntmps63
    go_wp2
    go_ret
    exact ⟨ret_bool H.out.symm, rfl⟩
theorem dash_any (b : Nat) (_hb : b < 256) (w : World) : Calls Tryd.prog 71 #[.int .u8 b] w fun e w' => e = .returned (.bool (dashB b)) ∧ w = w' := by
  by_cases h : b = 45
  · subst h
    go_enter Tryd.func71, Tryd.ntmps71
    go_wp2
    go_ret
    exact ⟨rfl, rfl⟩
  · have H := Lib.hid (show dashB b = false from decide_eq_false h)
    have e : ((b : Int) == 45) = false := beq_eq_false_iff_ne.2 (by omega)
    clear h
    go_enter Tryd.func71, Tryd.ntmps71
    go_wp2
    go_ret
    exact ⟨ret_bool H.out.symm, rfl⟩
theorem parting_any (b : Nat) (_hb : b < 256) (w : World) : Calls Tryd.prog 65 #[.int .u8 b] w fun e w' => e = .returned (.bool (partB b)) ∧ w = w' := by
  by_cases h : b = 47 ∨ b = 37
  · rcases h with rfl | rfl <;>
    · go_enter Tryd.func65, Tryd.ntmps65
      go_wp2
      go_ret
      exact ⟨rfl, rfl⟩
  · have H := Lib.hid (show partB b = false from decide_eq_false h)
    have e : ((b : Int) == 47) = false := beq_eq_false_iff_ne.2 (by omega)
    have e2 : ((b : Int) == 37) = false := beq_eq_false_iff_ne.2 (by omega)
    clear h
    go_enter Tryd.func65, Tryd.ntmps65
    go_wp2
    go_ret
    exact ⟨ret_bool H.out.symm, rfl⟩

theorem sized_any (s : ByteArray) (_hs : s.size ≤ maxLen) (least most : Nat) (_h2 : most ≤ 1000) (w : World) :
    Calls Tryd.prog 60 #[.string s, .int .i64 least, .int .i64 most] w fun e w' => e = .returned (.bool (decide (least ≤ s.data.toList.length) && decide (s.data.toList.length ≤ most))) ∧ w = w' := by
  unfold maxLen at _hs
  have Hl : Hid (s.data.toList.length = s.size) := Array.length_toList
  by_cases h1 : least ≤ s.size
  · by_cases h2 : s.size ≤ most
    · have H := Lib.hid (show (decide (least ≤ s.data.toList.length) && decide (s.data.toList.length ≤ most)) = true by rw [Hl.out, decide_eq_true h1, decide_eq_true h2]; rfl)
      go_enter Tryd.func60, Tryd.ntmps60
      go_wp2
      go_ret
      exact ⟨ret_bool H.out.symm, rfl⟩
    · have H := Lib.hid (show (decide (least ≤ s.data.toList.length) && decide (s.data.toList.length ≤ most)) = false by rw [Hl.out, decide_eq_false h2, Bool.and_false])
      go_enter Tryd.func60, Tryd.ntmps60
      go_wp2
      go_ret
      exact ⟨ret_bool H.out.symm, rfl⟩
  · have H := Lib.hid (show (decide (least ≤ s.data.toList.length) && decide (s.data.toList.length ≤ most)) = false by rw [Hl.out, decide_eq_false h1, Bool.false_and])
    go_enter Tryd.func60, Tryd.ntmps60
    go_wp2
    go_ret
    exact ⟨ret_bool H.out.symm, rfl⟩

/-- A function value answers p at each byte, in this world and in each that has more. -/
def Asks (k : FuncId) (cap : Array Value) (p : Nat → Bool) (w : World) : Prop :=
  (∀ args W, (callFunc k args).run Tryd.prog W = .ok (.enter k args) W) ∧
  ∀ (W : World) (b : Nat), b < 256 → Below w.heap.size w W → Calls Tryd.prog k (#[.int .u8 b] ++ cap) W fun e W' => e = .returned (.bool (p b)) ∧ W = W'
theorem Asks.later {k : FuncId} {cap : Array Value} {p : Nat → Bool} {w W : World} (h : Asks k cap p w) (hb : Below w.heap.size w W) : Asks k cap p W :=
  ⟨h.1, fun W' b hx hb' => h.2 W' b hx (hb.trans (hb'.mono hb.size))⟩
theorem asks_small (w : World) : Asks 62 #[] smallB w := ⟨enters_of Tryd.func62 (by kernel_rfl) rfl, fun W b hb _ => small_any b hb W⟩
theorem asks_digit (w : World) : Asks 69 #[] digitB w := ⟨enters_of Tryd.func69 (by kernel_rfl) rfl, fun W b hb _ => digit_any b hb W⟩
theorem asks_seen (w : World) : Asks 63 #[] seenB w := ⟨enters_of Tryd.func63 (by kernel_rfl) rfl, fun W b hb _ => seen_any b hb W⟩
theorem asks_dash (w : World) : Asks 71 #[] dashB w := ⟨enters_of Tryd.func71 (by kernel_rfl) rfl, fun W b hb _ => dash_any b hb W⟩
theorem asks_parting (w : World) : Asks 65 #[] partB w := ⟨enters_of Tryd.func65 (by kernel_rfl) rfl, fun W b hb _ => parting_any b hb W⟩
end Go.Proofs.YthflpgeonllgdaaDoor.nam
