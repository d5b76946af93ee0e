/- Layer 4: word, of the laws' own. -/
import Derived.Laws.BytesArg
import Derived.Test.YteocenjneoclbaaDoorTrmFew
namespace Go.Proofs.YteocenjneoclbaaDoor.tre
open Go.RowKit Go.Shelf

def letterU (u : UInt8) : UInt8 := 97 + u % 26
/-- The first three bytes of a text, as letters. -/
def wordL (s : ByteArray) : List UInt8 := (s.data.toList.take 3).map letterU
def wordV (s : ByteArray) : ByteArray := ⟨(wordL s).toArray⟩
theorem wordV_size (s : ByteArray) : (wordV s).size ≤ 3 := by
  show (wordL s).toArray.size ≤ 3
  simp [wordL]; omega
theorem wordL_letters (s : ByteArray) : ∀ u ∈ wordL s, 97 ≤ u ∧ u ≤ 122 := by
  intro u hu
  obtain ⟨x, _, rfl⟩ := List.mem_map.1 hu
  unfold letterU
  have h : x.toNat % 26 < 26 := Nat.mod_lt _ (by decide)
  simp only [UInt8.le_iff_toNat_le, UInt8.toNat_add, UInt8.toNat_mod]
  simp
  omega

theorem conv_word (w1 : World) (xs : List Int) (n c : Nat) (hn : xs.length = n) : (convert 57 9 (.slice (some ⟨w1.heap.size, 0, none⟩) n c)).run Tryd.prog (w1.alloc (.cells (xs.map (Value.int .u8)).toArray 5)) = .ok (.string (strOfNums xs)) (w1.alloc (.cells (xs.map (Value.int .u8)).toArray 5)) :=
  run_convert_bytes_arg (P := Tryd.prog) _ 57 5 Tryd.underlying57 Tryd.underlying5 w1.heap.size 0 n c xs hn (fun i hi => by
    rw [cell_of_row _ w1.heap.size (0 + i) _ 5 (0, 0) (heap_alloc_new w1 _)]
    simp [List.getElem?_eq_getElem (show i < xs.length by omega), List.getD]) 9 Tryd.underlying9
def wordN (s : ByteArray) (i : Nat) : ByteArray := ⟨((s.data.toList.take i).map letterU).toArray⟩
theorem wordN_step (s : ByteArray) (i : Nat) (h : i < s.size) : wordN s i ++ strOfNums [97 + ((s[i].toNat : Nat) : Int) % 26] = wordN s (i + 1) := by
  have e : s.data.toList.take (i + 1) = s.data.toList.take i ++ [s[i]] := by
    rw [List.take_succ_eq_append_getElem (by simpa using h)]; rfl
  have hx : UInt8.ofNat (97 + ((s[i].toNat : Nat) : Int) % 26).toNat = letterU s[i] := by
    rw [show (97 + ((s[i].toNat : Nat) : Int) % 26).toNat = 97 + s[i].toNat % 26 by omega]
    have h2 : s[i].toNat % 26 < 26 := Nat.mod_lt _ (by decide)
    apply UInt8.toNat_inj.1
    unfold letterU
    simp
  unfold wordN strOfNums
  rw [e]
  apply ByteArray.ext
  simp only [List.map_append, List.map_cons, List.map_nil, hx]
  simp [ByteArray.data_append]

set_option maxRecDepth 100000 in
set_option maxHeartbeats 1000000 in
theorem word_any (s : ByteArray) (hs : s.size ≤ maxLen) (W : World) :
    Calls Tryd.prog 33 #[.string s] W fun e w' => e = .returned (.string (wordV s)) ∧ Below W.heap.size W w' := by
  have hsn : (s.size : Int) ≤ 9223372036854775807 := by unfold maxLen at hs; omega
  go_enter Tryd.func33, Tryd.ntmps33
  go_wp2
  go_loopg [3, 4] 3 (fun gg s3 s4 wr => ∃ (i : Nat) (t : ByteArray), i ≤ s.size ∧ i ≤ 3 ∧ 3 - i ≤ gg ∧ s3 = .string t ∧ s4 = .int .i64 i ∧ Hid (t = wordN s i ∧ t.size = i ∧ Below W.heap.size W wr))
  case atStart => exact ⟨0, _, Nat.zero_le _, by omega, by omega, rfl, rfl, rfl, rfl, Below.refl _ _⟩
  case round =>
    obtain ⟨i, t, hil, hi3, hgg, rfl, rfl, H⟩ := hrel
    by_cases hlt : i < s.size
    · have hltz : (i : Int) < (s.size : Int) := by omega
      by_cases h3 : i < 3
      · have h3z : (i : Int) < 3 := by omega
        have hcv : ∀ a : Int, (convert 57 9 (.slice (some ⟨wr.heap.size, 0, none⟩) 1 1)).run Tryd.prog (wr.alloc (.cells #[.int .u8 a] 5)) = .ok (.string (strOfNums [a])) (wr.alloc (.cells #[.int .u8 a] 5)) := fun a => conv_word wr [a] 1 1 rfl
        have hsz : ∀ a : Int, ¬ 9223372036854775807 < t.size + (strOfNums [a]).size := fun a => by
          rw [strOfNums_size, H.out.2.1]; simp; omega
        have Hst := Lib.hid (wordN_step s i hlt)
        go_wp2
        go_roundg (3 - (i + 1))
        case measure => omega
        case rel => exact ⟨i + 1, _, by omega, by omega, by omega, rfl, by go_num, by rw [← Hst.out, H.out.1], by rw [ByteArray.size_append, strOfNums_size, H.out.2.1]; rfl, H.out.2.2.alloc H.out.2.2.size _⟩
      · have h3z : ¬ (i : Int) < 3 := by omega
        obtain rfl : i = 3 := by omega
        go_wp2
        go_ret
        exact ⟨by rw [H.out.1]; rfl, H.out.2.2⟩
    · have hltz : ¬ (i : Int) < (s.size : Int) := by omega
      have hw : wordN s i = wordV s := by
        unfold wordN wordV wordL
        have hn : s.data.toList.length = s.size := by simp
        rw [List.take_of_length_le (by omega), List.take_of_length_le (by omega)]
      have Hw := Lib.hid hw
      clear hw
      go_wp2
      go_ret
      exact ⟨by rw [H.out.1, Hw.out]; rfl, H.out.2.2⟩
end Go.Proofs.YteocenjneoclbaaDoor.tre
