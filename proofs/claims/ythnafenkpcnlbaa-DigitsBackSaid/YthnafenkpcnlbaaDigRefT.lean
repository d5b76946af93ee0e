/- Layer 2: the document's own Text. -/
import Derived.Test.YthnafenkpcnlbaaDigText
namespace Go.Proofs.Ythnafenkpcnlbaa.dig
open Go.RowKit

def digs0 (n : Nat) : List UInt8 := if n = 0 then [] else digs n
theorem digs_step (n : Nat) : digs n = digs0 (n / 10) ++ [dig1 (n % 10)] := by
  unfold digs0
  by_cases h : n < 10
  · rw [digs_small h, if_pos (by omega), show n % 10 = n by omega]; rfl
  · rw [digs_big h, if_neg (by omega)]
/-- What the loop knows: nothing was put yet, or what is left goes ahead of what was put. -/
def Put (N K : Nat) (l : List UInt8) : Prop := (l = [] ∧ K = N) ∨ (l ≠ [] ∧ digs N = digs0 K ++ l)
theorem Put.step {N K : Nat} {l : List UInt8} (h : Put N K l) (hk : 0 < K ∨ l = []) : Put N (K / 10) (dig1 (K % 10) :: l) := by
  right
  refine ⟨by simp, ?_⟩
  rcases h with ⟨rfl, rfl⟩ | ⟨h1, h2⟩
  · exact digs_step K
  · have hk' : 0 < K := by
      rcases hk with hk | hk
      · exact hk
      · exact absurd hk h1
    have e : digs0 K = digs K := if_neg (by omega)
    rw [h2, e, digs_step K]; simp
theorem Put.done {N : Nat} {l : List UInt8} (h : Put N 0 l) (hl : l ≠ []) : digs N = l := by
  rcases h with ⟨h1, _⟩ | ⟨_, h2⟩
  · exact absurd h1 hl
  · rw [h2]; rfl
theorem conv_new (w1 : World) (xs : List Int) (n c : Nat) (hn : xs.length = n) : (convert 32 9 (.slice (some ⟨w1.heap.size, 0, none⟩) n c)).run Try.prog (w1.alloc (.cells (xs.map (Value.int .u8)).toArray 5)) = .ok (.string (strOfNums xs)) (w1.alloc (.cells (xs.map (Value.int .u8)).toArray 5)) :=
  run_convert_bytes_arg (P := Try.prog) _ 32 5 Try.underlying32 Try.underlying5 w1.heap.size 0 n c xs hn (fun i hi => by
    rw [cell_of_row _ w1.heap.size (0 + i) _ 5 (0, 0) (heap_alloc_new w1 _)]
    simp [List.getElem?_eq_getElem (show i < xs.length by omega), List.getD]) 9 Try.underlying9
theorem conv_dig (w1 : World) (K : Nat) : (convert 32 9 (.slice (some ⟨w1.heap.size, 0, none⟩) 1 1)).run Try.prog (w1.alloc (.cells #[.int .u8 (48 + (K : Int) % 10)] 5)) = .ok (.string ⟨#[dig1 (K % 10)]⟩) (w1.alloc (.cells #[.int .u8 (48 + (K : Int) % 10)] 5)) := by
  refine (conv_new w1 [48 + (K : Int) % 10] 1 1 rfl).trans ?_
  congr 2
theorem conv_dig0 (w1 : World) : (convert 32 9 (.slice (some ⟨w1.heap.size, 0, none⟩) 1 1)).run Try.prog (w1.alloc (.cells #[.int .u8 48] 5)) = .ok (.string ⟨#[dig1 0]⟩) (w1.alloc (.cells #[.int .u8 48] 5)) := conv_dig w1 0
theorem cat_eq (d : UInt8) (l : List UInt8) : Value.string ((⟨#[d]⟩ : ByteArray) ++ ⟨l.toArray⟩) = .string ⟨(d :: l).toArray⟩ := by
  congr 1
set_option maxHeartbeats 1000000 in
theorem RefText_any (n : Int) (hn : inI n) (w : World) :
    Calls Try.prog 14 #[.int .i64 n] w fun e w' => e = .returned (.string ⟨(txt n).toArray⟩) ∧ Below w.heap.size w w' := by
  obtain ⟨N, hN, hN2⟩ := amt_nat hn
  have HNa := Lib.hid (show n.natAbs = N by unfold amt at hN; split at hN <;> omega)
  have HN := Lib.hid hN
  clear hN
  generalize hm : decide (n < 0) = m
  have Hm := Lib.hid hm
  clear hm
  have hlen := digs_len20 N hN2
  go_enter Try.func14, Try.ntmps14
  go_wp2_with fail
  refine (Of_as n hn m N Hm HN _).mono ?_
  rintro e w1 ⟨rfl, rfl⟩
  go_wp2
  go_loopg [4] (N + 1) (fun g v4 wr => ∃ (K : Nat) (l : List UInt8), K + (if l = [] then 1 else 0) = g ∧ v4 = .string ⟨l.toArray⟩ ∧ K ≤ 9223372036854775808 ∧ Hid (Put N K l) ∧ l.length ≤ 20 ∧
      wr.heap[w.heap.size + 1]? = some (.cells #[.bool m, .bool false, .int .u64 K] 41 (0, 0)) ∧ Below w.heap.size w wr)
  case atStart => exact ⟨N, [], rfl, rfl, hN2, .inl ⟨rfl, rfl⟩, by simp, new2b _ _ _, ((Below.refl _ _).alloc (Nat.le_refl _) _).alloc (by simp) _⟩
  case round =>
    obtain ⟨K, l, hg, rfl, hK, hP, hl, hblk, hB⟩ := hrel
    have c0 := blk_cell hblk 0
    have c2 := blk_cell hblk 2
    have f2 := blk_frozen hblk 2
    simp at c0 c2
    have hx := World.block_lt_of_cell? wr _ c2
    have Hblk := Lib.hid hblk
    clear hblk
    by_cases hgo : 0 < K ∨ l = []
    · have Hs := Lib.hid (hP.out.step hgo)
      have hcv := conv_dig wr K
      have hll : l.length ≤ 19 := by
        have := hP.out
        have h1 : 0 < K → l ≠ [] → l.length ≤ 18 := fun hk hn => by
          rcases this with ⟨h, _⟩ | ⟨_, h⟩
          · exact absurd h hn
          · have e : digs0 K = digs K := if_neg (by omega)
            rw [e] at h
            have h2 := congrArg List.length h
            have h3 := List.length_pos_iff.2 (digs_ne K)
            simp at h2
            omega
        rcases hgo with h | h
        · by_cases hn : l = []
          · rw [hn]; simp
          · have := h1 h hn; omega
        · rw [h]; simp
      by_cases hk0 : 0 < K
      · have hg1 : K / 10 < gk := by rw [← hg]; split <;> omega
        clear hgo hg hP
        go_wp2
        go_roundg (K / 10)
        case measure => exact hg1
        case rel => exact ⟨K / 10, dig1 (K % 10) :: l, by simp, cat_eq _ _, by omega, Hs, by simp; omega, (Below.heap_alloc _ _ _ (by simpa [World.setCell] using hx)).trans (blk_set Hblk.out 2 _), (hB.setCell (by show w.heap.size ≤ w.heap.size + 1; omega) _).alloc (by simpa [World.setCell] using hB.size) _⟩
      · have hl0 : l = [] := by
          rcases hgo with h | h
          · exact absurd h hk0
          · exact h
        obtain rfl : K = 0 := by omega
        subst hl0
        have hg1 : 0 < gk := by rw [← hg]; simp
        have hcv0 := conv_dig0 wr
        clear hgo hg hP hcv
        go_wp2
        go_roundg 0
        case measure => exact hg1
        case rel => exact ⟨0, [dig1 0], by simp, cat_eq _ _, by omega, Hs, by simp, (Below.heap_alloc _ _ _ (by simpa [World.setCell] using hx)).trans (blk_set Hblk.out 2 _), (hB.setCell (by show w.heap.size ≤ w.heap.size + 1; omega) _).alloc (by simpa [World.setCell] using hB.size) _⟩
    · have hl0 : l ≠ [] := fun h => hgo (.inr h)
      obtain rfl : K = 0 := by omega
      have Hd := Lib.hid (hP.out.done hl0)
      have hl1 : (l == []) = false := by simpa using hl0
      clear hgo hg hP
      cases m with
      | true =>
        have Ht := Lib.hid (show txt n = 45 :: l by unfold txt; rw [if_pos (of_decide_eq_true Hm.out), HNa.out, Hd.out])
        go_wp2
        go_ret
        exact ⟨ret_str (by rw [Ht.out]; rfl), hB⟩
      | false =>
        have Ht := Lib.hid (show txt n = l by unfold txt; rw [if_neg (of_decide_eq_false Hm.out), HNa.out, Hd.out])
        go_wp2
        go_ret
        exact ⟨ret_str (by rw [Ht.out]), hB⟩
end Go.Proofs.Ythnafenkpcnlbaa.dig
