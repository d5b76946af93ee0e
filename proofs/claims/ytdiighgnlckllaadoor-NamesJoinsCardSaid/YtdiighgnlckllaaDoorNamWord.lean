/- Layer 3: the laws' word. -/
import Derived.Test.YtdiighgnlckllaaDoorNamLongPure
import Derived.Test.YtdiighgnlckllaaDoorNamBytes
import Derived.Test.YtdiighgnlckllaaDoorNamPure3
import Derived.Laws.BitsAllLaws
namespace Go.Proofs.YtdiighgnlckllaaDoor.nam
open Go.RowKit Go.Shelf

def WordPost (w : World) (e : Ending) (w' : World) : Prop := ∃ x : List UInt8, plain x ∧ e = .returned (.string ⟨x.toArray⟩) ∧ Below w.heap.size w w'
theorem low12 (n : Int) : ∃ K : Nat, bits .and .i64 n 4095 = (K : Int) ∧ K ≤ 4095 := by
  have h : (BitVec.ofInt 64 n &&& BitVec.ofInt 64 4095).toNat ≤ 4095 := by
    rw [BitVec.toNat_and]
    exact Nat.le_trans Nat.and_le_right (by decide)
  refine ⟨(BitVec.ofInt 64 n &&& BitVec.ofInt 64 4095).toNat, ?_, h⟩
  show IntKind.i64.wrap ((BitVec.ofInt 64 n &&& BitVec.ofInt 64 4095).toNat : Int) = _
  rw [IntKind.wrap_i64]; omega
theorem strOf_let (K : Nat) : strOfNums [97 + (K : Int) % 8] = ⟨[let8 K].toArray⟩ := by
  apply ByteArray.ext
  unfold strOfNums
  show (List.map _ _).toArray = _
  rw [List.map_cons, List.map_nil]
  congr 2
set_option maxRecDepth 100000 in
set_option maxHeartbeats 2000000 in
theorem word_any (n : Int) (w : World) : Calls Tryd.prog 26 #[.int .i64 n] w (WordPost w) := by
  obtain ⟨K0, hK, hK0⟩ := low12 n
  have HK := Lib.hid hK
  clear hK
  go_enter Tryd.func26, Tryd.ntmps26
  go_upto_region 3 with (fail)
  rw [HK.out]
  go_wp2
  go_loopw [3, 4] (fun v a wr => ∃ (l : List UInt8) (K : Nat), v = .string ⟨l.toArray⟩ ∧ a = .int .i64 K ∧ Hid (Bnd l K) ∧ K ≤ 4095 ∧ l.length ≤ 4 ∧ Below w.heap.size w wr) (fun _ a _ => (intOf a).toNat)
  case atStart => exact ⟨[], K0, rfl, rfl, ⟨by simp, .inl ⟨rfl, hK0⟩⟩, hK0, by simp, Below.refl _ _⟩
  case round =>
    obtain ⟨l, K, rfl, rfl, hb, hKb, hl, hB⟩ := hrel
    have hli : (l.length : Int) ≤ 4 := by omega
    by_cases h0 : 0 < K
    · have Hs := Lib.hid (Bnd_step hb.out h0)
      have hl2 : (l ++ [let8 K]).length ≤ 4 := by
        rcases (Bnd_step hb.out h0).2 with h | h | h | h | h <;> omega
      have h0' : (0 : Int) < K := by omega
      have hcv : (convert 31 9 (.slice (some ⟨wr.heap.size, 0, none⟩) 1 1)).run Tryd.prog (wr.alloc (.cells #[.int .u8 (97 + (K : Int) % 8)] 5)) = .ok (.string ⟨[let8 K].toArray⟩) (wr.alloc (.cells #[.int .u8 (97 + (K : Int) % 8)] 5)) := by rw [conv_one, strOf_let]
      have Hv := Lib.hid (cat_val l [let8 K])
      have hB2 := fun o => hB.alloc hB.size o
      go_wp2
      go_roundw
      case rel => exact ⟨l ++ [let8 K], K / 8, Hv.out, by go_num, Hs, by omega, hl2, hB2 _⟩
      case measure => simp [intOf]; omega
    · obtain rfl : K = 0 := by omega
      have Hp := Lib.hid (Bnd_end hb.out)
      have Hv := Lib.hid (cat_val l [48])
      go_wp2
      go_ret
      exact ⟨l ++ [48], Hp.out, by rw [← Hv.out]; rfl, hB⟩
end Go.Proofs.YtdiighgnlckllaaDoor.nam
