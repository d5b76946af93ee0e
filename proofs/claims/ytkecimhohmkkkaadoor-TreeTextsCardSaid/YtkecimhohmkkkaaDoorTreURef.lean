/- Layer 1: the contracts of the document's own Encode and Next, and of the small functions of the laws. -/
import Derived.Test.YtkecimhohmkkkaaDoorTreUNext
namespace Go.Proofs.YtkecimhohmkkkaaDoor.utf
open Go.RowKit

set_option maxRecDepth 100000 in
set_option maxHeartbeats 400000 in
theorem refEncode_no (p : Int) (h : isPt p = false) (w : World) :
    Calls Tryd.prog 98 #[.int .i64 p] w fun e w' => e = .returned (.tuple #[.string ⟨(enc p).toArray⟩, .bool false]) ∧ Below w.heap.size w w' := by
  have he : (⟨(enc p).toArray⟩ : ByteArray) = ⟨#[]⟩ := by simp [enc, h]
  rw [he]
  have hc : p < 0 ∨ (0 ≤ p ∧ 1114111 < p) ∨ (55296 ≤ p ∧ p ≤ 57343) := by
    rcases Decidable.em (p < 0 ∨ (0 ≤ p ∧ 1114111 < p) ∨ (55296 ≤ p ∧ p ≤ 57343)) with e | e
    · exact e
    · have := (isPt_iff p).2 (by omega)
      rw [h] at this; cases this
  clear h he
  rcases hc with hc | ⟨hc, hc'⟩ | ⟨hc, hc'⟩
  · go_enter Tryd.func98, Tryd.ntmps98
    go_wp2
    go_ret2
    exact ⟨rfl, Below.refl _ _⟩
  · go_enter Tryd.func98, Tryd.ntmps98
    go_wp2
    go_ret2
    exact ⟨rfl, Below.refl _ _⟩
  · have h0 : 0 ≤ p := by omega
    have h1 : p ≤ 1114111 := by omega
    go_enter Tryd.func98, Tryd.ntmps98
    go_wp2
    go_ret2
    exact ⟨rfl, Below.refl _ _⟩

theorem rfin1 (p : Nat) (r0 : p ≤ 127) : strOfNums [(p : Int)] = ⟨(enc (p : Int)).toArray⟩ := by
  apply nums_eq
  rw [enc_of p ((isPt_iff _).2 (by omega)), encN, if_pos (by omega)]
  simp only [List.map_cons, List.map_nil]
  rw [Int.toNat_natCast]
set_option maxRecDepth 100000 in
set_option maxRecDepth 100000 in
set_option maxHeartbeats 1000000 in
theorem refEncode_one (p : Nat) (r0 : p ≤ 127) (w : World) :
    Calls Tryd.prog 98 #[.int .i64 p] w fun e w' => e = .returned (.tuple #[.string ⟨(enc p).toArray⟩, .bool true]) ∧ Below w.heap.size w w' := by
  have a0 : 0 ≤ (p : Int) := by omega
  have a1 : (p : Int) ≤ 1114111 := by omega
  have a2 : (p : Int) < 55296 := by omega
  have a3 : (p : Int) < 128 := by omega
  have hcv : ∀ a : Int, (convert 65 9 (.slice (some ⟨w.heap.size, 0, none⟩) 1 1)).run Tryd.prog (w.alloc (.cells #[.int .u8 a] 5)) = .ok (.string (strOfNums [a])) (w.alloc (.cells #[.int .u8 a] 5)) := fun a => conv_new w [a] 1 1 rfl
  have Hf := Lib.hid (rfin1 p r0)
  clear r0
  generalize (p : Int) = q at *
  go_enter Tryd.func98, Tryd.ntmps98
  go_wp2
  go_ret2
  exact ⟨ret_strb Hf.out, (Below.refl _ _).alloc (Nat.le_refl _) _⟩
theorem rfin2 (p : Nat) (r0 : 128 ≤ p) (r1 : p ≤ 2047) : strOfNums [192 + (p : Int) / 64, 128 + (p : Int) % 64] = ⟨(enc (p : Int)).toArray⟩ := by
  apply nums_eq
  rw [enc_of p ((isPt_iff _).2 (by omega)), encN, if_neg (by omega), if_pos (by omega)]
  simp only [List.map_cons, List.map_nil]
  rw [show (192 + (p : Int) / 64).toNat = 192 + p / 64 by omega, show (128 + (p : Int) % 64).toNat = 128 + p % 64 by omega]
set_option maxRecDepth 100000 in
set_option maxRecDepth 100000 in
set_option maxHeartbeats 1000000 in
theorem refEncode_two (p : Nat) (r0 : 128 ≤ p) (r1 : p ≤ 2047) (w : World) :
    Calls Tryd.prog 98 #[.int .i64 p] w fun e w' => e = .returned (.tuple #[.string ⟨(enc p).toArray⟩, .bool true]) ∧ Below w.heap.size w w' := by
  have a0 : 0 ≤ (p : Int) := by omega
  have a1 : (p : Int) ≤ 1114111 := by omega
  have a2 : (p : Int) < 55296 := by omega
  have a3 : 128 ≤ (p : Int) := by omega
  have a4 : (p : Int) < 2048 := by omega
  have hcv : ∀ a b : Int, (convert 65 9 (.slice (some ⟨w.heap.size, 0, none⟩) 2 2)).run Tryd.prog (w.alloc (.cells #[.int .u8 a, .int .u8 b] 5)) = .ok (.string (strOfNums [a, b])) (w.alloc (.cells #[.int .u8 a, .int .u8 b] 5)) := fun a b => conv_new w [a, b] 2 2 rfl
  have Hf := Lib.hid (rfin2 p r0 r1)
  clear r0 r1
  generalize (p : Int) = q at *
  go_enter Tryd.func98, Tryd.ntmps98
  go_wp2
  go_ret2
  exact ⟨ret_strb Hf.out, (Below.refl _ _).alloc (Nat.le_refl _) _⟩
theorem rfin3 (p : Nat) (r0 : 2048 ≤ p) (r1 : p ≤ 65535) (r2 : p < 55296 ∨ 57343 < p) : strOfNums [224 + (p : Int) / 4096, 128 + (p : Int) / 64 % 64, 128 + (p : Int) % 64] = ⟨(enc (p : Int)).toArray⟩ := by
  apply nums_eq
  rw [enc_of p ((isPt_iff _).2 (by omega)), encN, if_neg (by omega), if_neg (by omega), if_pos (by omega)]
  simp only [List.map_cons, List.map_nil]
  rw [show (224 + (p : Int) / 4096).toNat = 224 + p / 4096 by omega, show (128 + (p : Int) / 64 % 64).toNat = 128 + p / 64 % 64 by omega, show (128 + (p : Int) % 64).toNat = 128 + p % 64 by omega]
set_option maxRecDepth 100000 in
set_option maxRecDepth 100000 in
set_option maxHeartbeats 1000000 in
theorem refEncode_three (p : Nat) (r0 : 2048 ≤ p) (r1 : p ≤ 65535) (r2 : p < 55296 ∨ 57343 < p) (w : World) :
    Calls Tryd.prog 98 #[.int .i64 p] w fun e w' => e = .returned (.tuple #[.string ⟨(enc p).toArray⟩, .bool true]) ∧ Below w.heap.size w w' := by
  have a0 : 0 ≤ (p : Int) := by omega
  have a1 : (p : Int) ≤ 1114111 := by omega
  have a2 : 2048 ≤ (p : Int) := by omega
  have a3 : (p : Int) < 65536 := by omega
  rcases r2 with r3 | r3
  · have r2 : p < 55296 ∨ 57343 < p := .inl r3
    have a4 : (p : Int) < 55296 := by omega
    clear r3
    have hcv : ∀ a b c : Int, (convert 65 9 (.slice (some ⟨w.heap.size, 0, none⟩) 3 3)).run Tryd.prog (w.alloc (.cells #[.int .u8 a, .int .u8 b, .int .u8 c] 5)) = .ok (.string (strOfNums [a, b, c])) (w.alloc (.cells #[.int .u8 a, .int .u8 b, .int .u8 c] 5)) := fun a b c => conv_new w [a, b, c] 3 3 rfl
    have Hf := Lib.hid (rfin3 p r0 r1 r2)
    clear r0 r1 r2
    generalize (p : Int) = q at *
    go_enter Tryd.func98, Tryd.ntmps98
    go_wp2
    go_ret2
    exact ⟨ret_strb Hf.out, (Below.refl _ _).alloc (Nat.le_refl _) _⟩
  · have r2 : p < 55296 ∨ 57343 < p := .inr r3
    have a4 : 57343 < (p : Int) := by omega
    clear r3
    have hcv : ∀ a b c : Int, (convert 65 9 (.slice (some ⟨w.heap.size, 0, none⟩) 3 3)).run Tryd.prog (w.alloc (.cells #[.int .u8 a, .int .u8 b, .int .u8 c] 5)) = .ok (.string (strOfNums [a, b, c])) (w.alloc (.cells #[.int .u8 a, .int .u8 b, .int .u8 c] 5)) := fun a b c => conv_new w [a, b, c] 3 3 rfl
    have Hf := Lib.hid (rfin3 p r0 r1 r2)
    clear r0 r1 r2
    generalize (p : Int) = q at *
    go_enter Tryd.func98, Tryd.ntmps98
    go_wp2
    go_ret2
    exact ⟨ret_strb Hf.out, (Below.refl _ _).alloc (Nat.le_refl _) _⟩
theorem rfin4 (p : Nat) (r0 : 65536 ≤ p) (r1 : p ≤ 1114111) : strOfNums [240 + (p : Int) / 262144, 128 + (p : Int) / 4096 % 64, 128 + (p : Int) / 64 % 64, 128 + (p : Int) % 64] = ⟨(enc (p : Int)).toArray⟩ := by
  apply nums_eq
  rw [enc_of p ((isPt_iff _).2 (by omega)), encN, if_neg (by omega), if_neg (by omega), if_neg (by omega)]
  simp only [List.map_cons, List.map_nil]
  rw [show (240 + (p : Int) / 262144).toNat = 240 + p / 262144 by omega, show (128 + (p : Int) / 4096 % 64).toNat = 128 + p / 4096 % 64 by omega, show (128 + (p : Int) / 64 % 64).toNat = 128 + p / 64 % 64 by omega, show (128 + (p : Int) % 64).toNat = 128 + p % 64 by omega]
set_option maxRecDepth 100000 in
set_option maxRecDepth 100000 in
set_option maxHeartbeats 1000000 in
theorem refEncode_four (p : Nat) (r0 : 65536 ≤ p) (r1 : p ≤ 1114111) (w : World) :
    Calls Tryd.prog 98 #[.int .i64 p] w fun e w' => e = .returned (.tuple #[.string ⟨(enc p).toArray⟩, .bool true]) ∧ Below w.heap.size w w' := by
  have a0 : 0 ≤ (p : Int) := by omega
  have a1 : (p : Int) ≤ 1114111 := by omega
  have a2 : 57343 < (p : Int) := by omega
  have a3 : 65536 ≤ (p : Int) := by omega
  have hcv : ∀ a b c d : Int, (convert 65 9 (.slice (some ⟨w.heap.size, 0, none⟩) 4 4)).run Tryd.prog (w.alloc (.cells #[.int .u8 a, .int .u8 b, .int .u8 c, .int .u8 d] 5)) = .ok (.string (strOfNums [a, b, c, d])) (w.alloc (.cells #[.int .u8 a, .int .u8 b, .int .u8 c, .int .u8 d] 5)) := fun a b c d => conv_new w [a, b, c, d] 4 4 rfl
  have Hf := Lib.hid (rfin4 p r0 r1)
  clear r0 r1
  generalize (p : Int) = q at *
  go_enter Tryd.func98, Tryd.ntmps98
  go_wp2
  go_ret2
  exact ⟨ret_strb Hf.out, (Below.refl _ _).alloc (Nat.le_refl _) _⟩

/-- The document's Encode: the same. -/
theorem refEncode_any (p : Int) (w : World) :
    Calls Tryd.prog 98 #[.int .i64 p] w fun e w' => e = .returned (.tuple #[.string ⟨(enc p).toArray⟩, .bool (isPt p)]) ∧ Below w.heap.size w w' := by
  cases h : isPt p
  · exact refEncode_no p h w
  · obtain ⟨a, b, c⟩ := (isPt_iff p).1 h
    obtain ⟨q, rfl⟩ := Int.eq_ofNat_of_zero_le a
    by_cases h1 : q ≤ 127
    · exact refEncode_one q h1 w
    · by_cases h2 : q ≤ 2047
      · exact refEncode_two q (by omega) h2 w
      · by_cases h3 : q ≤ 65535
        · exact refEncode_three q (by omega) h3 (by omega) w
        · exact refEncode_four q (by omega) (by omega) w
end Go.Proofs.YtkecimhohmkkkaaDoor.utf
