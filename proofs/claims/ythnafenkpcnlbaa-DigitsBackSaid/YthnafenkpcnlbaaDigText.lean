/- Layer 2: Text: the digits are put from the end into a row of the call's own, by a closure. -/
import Derived.Test.YthnafenkpcnlbaaDigLeaf
import Derived.Test.YthnafenkpcnlbaaDigRefM
import Derived.Laws.BytesArg
import Derived.Deep.LoopGhost
namespace Go.Proofs.Ythnafenkpcnlbaa.dig
open Go.RowKit

/-- A row of twenty bytes of which the last ones are l. -/
def rowN (f : Nat) (l : List UInt8) : List Int := List.replicate f 0 ++ l.map fun c => (c.toNat : Int)
def rowC (f : Nat) (l : List UInt8) : Array Value := ((rowN f l).map (Value.int .u8)).toArray
structure St (w : World) (F R f : Nat) (l : List UInt8) : Prop where
  len : f + l.length = 20
  ne : F ≠ R
  first : w.heap[F]? = some (.cells #[.int .i64 f] 3 (0, 0))
  row : w.heap[R]? = some (.cells (rowC f l) 43 (0, 0))
theorem St.at_ {w : World} {F R f g : Nat} {l : List UInt8} (h : St w F R f l) (e : f = g) : St w F R g l := by subst e; exact h
theorem rowN_len {f : Nat} {l : List UInt8} (h : f + l.length = 20) : (rowN f l).length = 20 := by simp [rowN]; omega
theorem rowC_get {f : Nat} {l : List UInt8} (i : Nat) : (rowC f l)[i]? = (rowN f l)[i]?.map (Value.int .u8) := by simp [rowC]
theorem rowN_set {f : Nat} {l : List UInt8} (c : UInt8) (hf : 1 ≤ f) : (rowN f l).set (f - 1) (c.toNat : Int) = rowN (f - 1) (c :: l) := by
  obtain ⟨g, rfl⟩ : ∃ g, f = g + 1 := ⟨f - 1, by omega⟩
  unfold rowN
  rw [show g + 1 - 1 = g by omega, List.set_append_left _ _ (by simp), List.replicate_succ']
  rw [List.set_append_right _ _ (by simp)]
  simp
theorem rowC_set {f : Nat} {l : List UInt8} (c : UInt8) (hf : 1 ≤ f) : (rowC f l).setIfInBounds (f - 1) (.int .u8 (c.toNat : Int)) = rowC (f - 1) (c :: l) := by
  apply Array.toList_inj.1
  rw [Array.toList_setIfInBounds]
  simp only [rowC]
  rw [← rowN_set c hf, List.map_set]
theorem blk_far {w : World} {g : Nat} {o : Obj} (h : w.heap[g]? = some o) {p : Addr} (hp : g ≠ p.block) (u : Value) : (w.setCell p u).heap[g]? = some o := (Below.heap_setCell w p u g hp).trans h

theorem put_any (B : Nat) (w0 w : World) (F R f : Nat) (l : List UInt8) (c : UInt8) (b : Int) (hb : Hid (b = (c.toNat : Int))) (hf : 1 ≤ f) (hS : St w F R f l) (hB : Below B w0 w) (hF : B ≤ F) (hR : B ≤ R) :
    Calls Try.prog 30 #[.int .u8 b, .pointer (some ⟨F, 0, none⟩), .pointer (some ⟨R, 0, none⟩)] w fun e w' => e = .returned (.tuple #[]) ∧ St w' F R (f - 1) (c :: l) ∧ Below B w0 w' := by
  have hlen := hS.len
  have hn20 := rowN_len hlen
  have c1 : w.cell? ⟨F, 0, none⟩ = some (.int .i64 f) := by rw [blk_cell hS.first]; rfl
  have f1 := blk_frozen hS.first 0
  have c2 : w.cell? ⟨R, f - 1, none⟩ = some (.int .u8 ((rowN f l)[f - 1]'(by omega))) := by
    rw [blk_cell hS.row, rowC_get, List.getElem?_eq_getElem (by omega)]; rfl
  have f2 := blk_frozen hS.row (f - 1)
  generalize (rowN f l)[f - 1]'(by omega) = old at c2
  have hne := hS.ne
  have h20 : f ≤ 20 := by omega
  have HS := Lib.hid hS
  have Hl := Lib.hid hlen
  clear hS hlen hn20
  go_enter Try.func30, Try.ntmps30
  go_wp2
  go_end0
  refine ⟨rfl, ?_, ?_⟩
  · have hl := Hl.out
    refine ⟨by simp; omega, hne, ?_, ?_⟩
    · refine blk_far ?_ (show F ≠ R from hne) _
      have h := blk_set HS.out.first 0 (.int .i64 ((f : Int) - 1))
      rw [show ((f - 1 : Nat) : Int) = (f : Int) - 1 by omega]
      exact h
    · have h := blk_far HS.out.row (p := ⟨F, 0, none⟩) (show R ≠ F from hne.symm) (.int .i64 ((f : Int) - 1))
      have h2 := blk_set h (f - 1) (.int .u8 b)
      rw [hb.out] at h2
      rw [rowC_set c hf] at h2
      rw [hb.out]
      exact h2
  · exact (hB.setCell hF _).setCell hR _

theorem dig1_int (d : Nat) (h : d < 10) : (48 : Int) + (d : Int) = ((dig1 d).toNat : Int) := by
  have e := dval_dig1 h
  have e2 := (isD_iff _).1 (isD_dig1 h)
  unfold dval at e
  omega
theorem digs_len20 (N : Nat) (h : N ≤ 9223372036854775808) : (digs N).length ≤ 19 := digs_len 18 N (by omega)
theorem new2a (w : World) (a b : Obj) : ((w.alloc a).alloc b).heap[w.heap.size]? = some a := by
  rw [Below.heap_alloc (w.alloc a) b w.heap.size (by simp)]
  exact heap_alloc_new w a
theorem new2b (w : World) (a b : Obj) : ((w.alloc a).alloc b).heap[w.heap.size + 1]? = some b := by
  have h := heap_alloc_new (w.alloc a) b
  simp only [World.size_alloc] at h
  exact h
theorem ret_str {a b : ByteArray} (h : a = b) : Ending.returned (.string a) = .returned (.string b) := by rw [h]
theorem slice_tail (g R : Nat) (hg : g ≤ 19) (w : World) : (Instr.sliceAt 43 (.pointer (some ⟨R, 0, none⟩)) (some (.int .i64 g)) none none).run Try.prog w = .ok (.slice (some ⟨R, g, none⟩) (20 - g) (20 - g)) w := by
  have hA : Try.prog.arrayLen 43 = 20 := by kernel_rfl
  have hE : Try.prog.elem 43 = 5 := by kernel_rfl
  rw [run_sliceAt_array_l w 43 _ (by rw [hA, hE]; exact Try.underlying43) .i64 (g : Int) (by omega) (by rw [hA]; omega)]
  rw [hA, hE]
  have hz : ∀ w, (sizeOf 5).run Try.prog w = .ok 1 w := fun _ => by kernel_rfl
  rw [hz]
  show Result.ok _ _ = _
  unfold slicedAt
  rw [Int.toNat_natCast, if_neg (by omega), Nat.mul_one]
  congr 3
  unfold Addr.add
  split
  · rename_i h; rw [h]
  · simp
theorem conv_tail (w : World) (F R g : Nat) (l : List UInt8) (h : St w F R g l) : (convert 32 9 (.slice (some ⟨R, g, none⟩) (20 - g) (20 - g))).run Try.prog w = .ok (.string ⟨l.toArray⟩) w := by
  have hl := h.len
  have e := run_convert_bytes_arg (P := Try.prog) w 32 5 Try.underlying32 Try.underlying5 R g (20 - g) (20 - g) (l.map fun c => (c.toNat : Int)) (by simp; omega) (fun i hi => by
    rw [blk_cell h.row, rowC_get]
    unfold rowN
    rw [List.getElem?_append_right (by simp)]
    simp [List.getElem?_eq_getElem (show i < l.length by omega)]) 9 Try.underlying9
  rw [e]
  congr 2
  show (⟨_⟩ : ByteArray) = _
  congr 2
  rw [List.map_map]
  conv => rhs; rw [← List.map_id l]
  apply List.map_congr_left
  intro c _
  simp
set_option maxHeartbeats 1000000 in
theorem text_any (n : Int) (hn : inI n) (w : World) :
    Calls Try.prog 13 #[.int .i64 n] w fun e w' => e = .returned (.string ⟨(txt n).toArray⟩) ∧ Below w.heap.size w w' := by
  obtain ⟨N, hN, hN2⟩ := amt_nat hn
  have HN := Lib.hid hN
  have HNa := Lib.hid (show n.natAbs = N by unfold amt at hN; split at hN <;> omega)
  clear hN
  have hlen := digs_len20 N hN2
  go_enter Try.func13, Try.ntmps13
  go_wp2_with fail
  refine (sizeOf_any n hn _).mono ?_
  rintro e w' ⟨rfl, rfl⟩
  rw [HN.out]
  go_wp2
  go_loopw [6] (fun v6 wr => ∃ (s : Nat) (l : List UInt8), v6 = .int .u64 s ∧ s ≤ 9223372036854775808 ∧ Hid (digs N = digs s ++ l) ∧ St wr (w.heap.size + 1) w.heap.size (20 - l.length) l ∧ Below w.heap.size w wr ∧ l.length ≤ 18) (fun v _ => (intOf v).toNat)
  case atStart => exact ⟨N, [], rfl, hN2, (show digs N = digs N ++ [] by simp), ⟨rfl, by omega, new2b _ _ _, new2a _ _ _⟩, ((Below.refl _ _).alloc (Nat.le_refl _) _).alloc (by simp) _, by simp⟩
  case round =>
    obtain ⟨s, l, rfl, hs, Hd, hS, hB, hl⟩ := hrel
    by_cases hs10 : 10 ≤ s
    · have Hd2 := Lib.hid (show digs N = digs (s / 10) ++ (dig1 (s % 10) :: l) by rw [Hd.out, digs_big (by omega)]; simp)
      have hl2 : l.length ≤ 17 := by
        have h1 := congrArg List.length Hd2.out
        have h2 := List.length_pos_iff.2 (digs_ne (s / 10))
        simp at h1
        omega
      have Hb : Hid (48 + (s : Int) % 10 = ((dig1 (s % 10)).toNat : Int)) := by
        show 48 + (s : Int) % 10 = _
        rw [← dig1_int _ (by omega)]; omega
      have hsp : 48 + (s : Int) % 10 ≤ 255 := by omega
      go_wp2_with fail
      refine (put_any w.heap.size w wr (w.heap.size + 1) w.heap.size (20 - l.length) l (dig1 (s % 10)) _ Hb (by omega) hS hB (by omega) (Nat.le_refl _)).mono ?_
      rintro e w1 ⟨rfl, hS1, hB1⟩
      have HS1 := Lib.hid hS1
      clear hS1 hS
      go_wp2
      go_roundw
      case measure => simp [intOf]; omega
      case rel => exact ⟨s / 10, dig1 (s % 10) :: l, by go_num, by omega, Hd2, HS1.out.at_ (by simp; omega), hB1, by simp; omega⟩
    · have Hd2 := Lib.hid (show digs N = dig1 s :: l by rw [Hd.out, digs_small (by omega)]; rfl)
      have Hb : Hid (48 + (s : Int) = ((dig1 s).toNat : Int)) := dig1_int _ (by omega)
      go_wp2_with fail
      refine (put_any w.heap.size w wr (w.heap.size + 1) w.heap.size (20 - l.length) l (dig1 s) _ Hb (by omega) hS hB (by omega) (Nat.le_refl _)).mono ?_
      rintro e w1 ⟨rfl, hS1, hB1⟩
      have HS1 := Lib.hid hS1
      clear hS1 hS
      by_cases hneg : n < 0
      · have Hb45 : Hid ((45 : Int) = (((45 : UInt8)).toNat : Int)) := rfl
        go_wp2_with fail
        refine (put_any w.heap.size w w1 (w.heap.size + 1) w.heap.size (20 - l.length - 1) (dig1 s :: l) 45 _ Hb45 (by omega) HS1.out hB1 (by omega) (Nat.le_refl _)).mono ?_
        rintro e w2 ⟨rfl, hS2, hB2⟩
        have Ht := Lib.hid (show txt n = 45 :: dig1 s :: l by unfold txt; rw [if_pos hneg, HNa.out, Hd2.out])
        obtain ⟨g, hg⟩ : ∃ g, g = 20 - l.length - 1 - 1 := ⟨_, rfl⟩
        rw [← hg] at hS2
        have c1 : w2.cell? ⟨w.heap.size + 1, 0, none⟩ = some (.int .i64 (g : Int)) := by rw [blk_cell hS2.first]; rfl
        have hsl := slice_tail g w.heap.size (by omega) w2
        have hcv := conv_tail w2 _ _ _ _ hS2
        clear hg hS2
        go_wp2
        go_ret
        exact ⟨ret_str (by rw [Ht.out]), hB2⟩
      · have Ht := Lib.hid (show txt n = dig1 s :: l by unfold txt; rw [if_neg hneg, HNa.out, Hd2.out])
        have hS2 := HS1.out
        obtain ⟨g, hg⟩ : ∃ g, g = 20 - l.length - 1 := ⟨_, rfl⟩
        rw [← hg] at hS2
        have c1 : w1.cell? ⟨w.heap.size + 1, 0, none⟩ = some (.int .i64 (g : Int)) := by rw [blk_cell hS2.first]; rfl
        have hsl := slice_tail g w.heap.size (by omega) w1
        have hcv := conv_tail w1 _ _ _ _ hS2
        clear hg hS2
        go_wp2
        go_ret
        exact ⟨ret_str (by rw [Ht.out]), hB1⟩
end Go.Proofs.Ythnafenkpcnlbaa.dig
