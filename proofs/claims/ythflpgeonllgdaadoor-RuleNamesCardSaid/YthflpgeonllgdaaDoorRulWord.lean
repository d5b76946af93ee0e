/- Layer 8: the laws' word. -/
import Derived.Test.YthflpgeonllgdaaDoorNamWord
namespace Go.Proofs.YthflpgeonllgdaaDoor.rul
open Go.RowKit Go.Shelf Go.Proofs.YthflpgeonllgdaaDoor.nam

/-- A word: one to three small letters. -/
def wordy (x : List UInt8) : Prop := x ≠ [] ∧ x.length ≤ 3 ∧ ∀ b ∈ x, smallB b.toNat = true
def WordPost (w : World) (e : Ending) (w' : World) : Prop := ∃ x : List UInt8, wordy x ∧ e = .returned (.string ⟨x.toArray⟩) ∧ Below w.heap.size w w'
theorem low6 (n : Int) : ∃ K : Nat, bits .and .i64 n 63 = (K : Int) ∧ K ≤ 63 := by
  have h : (BitVec.ofInt 64 n &&& BitVec.ofInt 64 63).toNat ≤ 63 := by
    rw [BitVec.toNat_and]
    exact Nat.le_trans Nat.and_le_right (by decide)
  refine ⟨(BitVec.ofInt 64 n &&& BitVec.ofInt 64 63).toNat, ?_, h⟩
  show IntKind.i64.wrap ((BitVec.ofInt 64 n &&& BitVec.ofInt 64 63).toNat : Int) = _
  rw [IntKind.wrap_i64]; omega
def Bd (l : List UInt8) (K : Nat) : Prop := (∀ b ∈ l, smallB b.toNat = true) ∧ ((l.length = 1 ∧ K ≤ 63) ∨ (l.length = 2 ∧ K ≤ 7) ∨ (l.length = 3 ∧ K = 0))
theorem Bd_step {l : List UInt8} {K : Nat} (h : Bd l K) (hk : 0 < K) : Bd (l ++ [let8 K]) (K / 8) := by
  refine ⟨fun b hb => ?_, ?_⟩
  · rcases List.mem_append.1 hb with hb | hb
    · exact h.1 b hb
    · rw [List.mem_singleton.1 hb, let8_nat]
      unfold smallB; simp; omega
  · rw [List.length_append, List.length_singleton]
    rcases h.2 with h | h | h <;> omega
theorem Bd_end {l : List UInt8} {K : Nat} (h : Bd l K) : wordy l := by
  refine ⟨fun e => ?_, by rcases h.2 with h | h | h <;> omega, h.1⟩
  rw [e] at h
  rcases h.2 with h | h | h <;> simp at h
set_option maxRecDepth 100000 in
set_option maxHeartbeats 2000000 in
theorem word_any (n : Int) (w : World) : Calls Tryd.prog 24 #[.int .i64 n] w (WordPost w) := by
  obtain ⟨K0, hK, hK0⟩ := low6 n
  have HK := Lib.hid hK
  clear hK
  go_enter Tryd.func24, Tryd.ntmps24
  go_upto_region 3 with (fail)
  rw [HK.out]
  go_wp2
  go_loopw [3, 4] (fun v a wr => ∃ (l : List UInt8) (K : Nat), v = .string ⟨l.toArray⟩ ∧ a = .int .i64 K ∧ Hid (Bd l K) ∧ K ≤ 63 ∧ l.length ≤ 3 ∧ Below w.heap.size w wr) (fun _ a _ => (intOf a).toNat)
  case atStart => exact ⟨[119], K0, rfl, rfl, ⟨by simp; decide, .inl ⟨rfl, hK0⟩⟩, hK0, by simp, Below.refl _ _⟩
  case round =>
    obtain ⟨l, K, rfl, rfl, hb, hKb, hl, hB⟩ := hrel
    have hli : (l.length : Int) ≤ 3 := by omega
    by_cases h0 : 0 < K
    · have Hs := Lib.hid (Bd_step hb.out h0)
      have hl2 : (l ++ [let8 K]).length ≤ 3 := by
        rcases (Bd_step hb.out h0).2 with h | h | h <;> omega
      have h0' : (0 : Int) < K := by omega
      have hcv : (convert 55 9 (.slice (some ⟨wr.heap.size, 0, none⟩) 1 1)).run Tryd.prog (wr.alloc (.cells #[.int .u8 (97 + (K : Int) % 8)] 5)) = .ok (.string ⟨[let8 K].toArray⟩) (wr.alloc (.cells #[.int .u8 (97 + (K : Int) % 8)] 5)) := by rw [conv_one, strOf_let]
      have Hv := Lib.hid (cat_val l [let8 K])
      have hB2 := fun o => hB.alloc hB.size o
      go_wp2
      go_roundw
      case rel => exact ⟨l ++ [let8 K], K / 8, Hv.out, by go_num, Hs, by omega, hl2, hB2 _⟩
      case measure => simp [intOf]; omega
    · obtain rfl : K = 0 := by omega
      have Hp := Lib.hid (Bd_end hb.out)
      go_wp2
      go_ret
      exact ⟨l, Hp.out, rfl, hB⟩
end Go.Proofs.YthflpgeonllgdaaDoor.rul
