/- Layer 2: the document's own Mul, by the bits of the one. -/
import Derived.Test.YthnafenkpcnlbaaDigRef
namespace Go.Proofs.Ythnafenkpcnlbaa.dig
open Go.RowKit

theorem pow_step {X k mt acc : Nat} (h : acc + mt * k = X) (hk : k % 2 = 1) : (acc + mt) + (2 * mt) * (k / 2) = X := by
  have e : k = 2 * (k / 2) + 1 := by omega
  rw [← h]
  conv => rhs; rw [e]
  rw [Nat.mul_add, Nat.mul_one, ← Nat.mul_assoc, Nat.mul_comm mt 2]; omega
theorem pow_skip {X k mt acc : Nat} (h : acc + mt * k = X) (hk : ¬ k % 2 = 1) : acc + (2 * mt) * (k / 2) = X := by
  have e : k = 2 * (k / 2) := by omega
  rw [← h]
  conv => rhs; rw [e]
  rw [← Nat.mul_assoc, Nat.mul_comm mt 2]
/-- The amount's rest and whether it is over: what a loop's head knows. -/
def ovr (n : Nat) : Bool := decide (18446744073709551616 ≤ n)
def low (n : Nat) : Nat := n % 18446744073709551616

theorem low_small {n : Nat} (h : n < 18446744073709551616) : low n = n := Nat.mod_eq_of_lt h
theorem ovr_small {n : Nat} (h : n < 18446744073709551616) : ovr n = false := decide_eq_false (by omega)
theorem low_lt (n : Nat) : low n < 18446744073709551616 := Nat.mod_lt _ (by omega)
theorem below5 (w : World) (a b c d e : Obj) : Below w.heap.size w (((((w.alloc a).alloc b).alloc c).alloc d).alloc e) := (below4 w a b c d).alloc (by simp; omega) _
theorem new5 (w : World) (o1 o2 o3 o4 o : Obj) : (((((w.alloc o1).alloc o2).alloc o3).alloc o4).alloc o).heap[w.heap.size + 1 + 1 + 1 + 1]? = some o := by
  have h := heap_alloc_new ((((w.alloc o1).alloc o2).alloc o3).alloc o4) o
  simp only [World.size_alloc] at h
  exact h
theorem blk_cell {w : World} {g : Nat} {cs : Array Value} {t : TypeId} (h : w.heap[g]? = some (.cells cs t (0, 0))) (i : Nat) : w.cell? ⟨g, i, none⟩ = cs[i]? := cell_of_row w g i cs t (0, 0) h
theorem blk_frozen {w : World} {g : Nat} {cs : Array Value} {t : TypeId} (h : w.heap[g]? = some (.cells cs t (0, 0))) (i : Nat) : w.frozen? ⟨g, i, none⟩ = false := by
  simp [World.frozen?, h]
theorem blk_set {w : World} {g : Nat} {cs : Array Value} {t : TypeId} (h : w.heap[g]? = some (.cells cs t (0, 0))) (i : Nat) (u : Value) : (w.setCell ⟨g, i, none⟩ u).heap[g]? = some (.cells (cs.setIfInBounds i u) t (0, 0)) := by
  simp [World.setCell, Array.getElem?_modify, h]
theorem mul_over {acc mt x y : Nat} {m k : Bool} {a b : Int} (h : acc + mt * 0 = x * y) (hp : sgn (m != k) ((x * y : Nat) : Int) = a * b) : ovr acc = true → ¬ inI (a * b) := by
  intro ho
  have ho := of_decide_eq_true ho
  rw [← hp, ← h]
  unfold sgn inI
  cases (m != k)
  · simp only [cond_false]; omega
  · simp only [cond_true]; omega
theorem mul_fits {acc mt x y : Nat} {m k : Bool} {a b : Int} (h : acc + mt * 0 = x * y) (hp : sgn (m != k) ((x * y : Nat) : Int) = a * b) : ovr acc = false → sgn (!(m == k)) ((low acc : Nat) : Int) = a * b := by
  intro ho
  have ho := of_decide_eq_false ho
  rw [low_small (by omega), ← hp, ← h]
  rfl
theorem low_wrap (acc mt : Nat) : IntKind.u64.wrap ((low acc : Nat) + (low mt : Nat) : Int) = (low (acc + mt) : Nat) := by
  rw [IntKind.wrap_u64]; unfold low; omega
theorem low_wrap2 (mt : Nat) : IntKind.u64.wrap ((low mt : Nat) * 2 : Int) = (low (2 * mt) : Nat) := by
  rw [IntKind.wrap_u64]; unfold low; omega
theorem ovr_add (acc mt : Nat) : ovr (acc + mt) = (ovr acc || (ovr mt || decide (low (acc + mt) < low mt))) := by
  unfold ovr low
  rw [Bool.eq_iff_iff]
  simp only [Bool.or_eq_true, decide_eq_true_eq]
  omega
theorem ovr_twice (mt : Nat) : ovr (2 * mt) = (ovr mt || decide (9223372036854775808 ≤ low mt)) := by
  unfold ovr low
  rw [Bool.eq_iff_iff]
  simp only [Bool.or_eq_true, decide_eq_true_eq]
  omega
set_option maxHeartbeats 1000000 in
theorem RefMul_any (a b : Int) (ha : inI a) (hb : inI b) (w : World) :
    Calls Try.prog 20 #[.int .i64 a, .int .i64 b] w fun e w' => e = .returned (.tuple #[.int .i64 (tV (a * b)), .int .i64 (tE (a * b))]) ∧ Below w.heap.size w w' := by
  obtain ⟨x, hx, hx2⟩ := amt_nat ha
  obtain ⟨y, hy, hy2⟩ := amt_nat hb
  have hp : sgn (decide (a < 0) != decide (b < 0)) ((x * y : Nat) : Int) = a * b := by
    rw [← sgn_mul, hx, hy, Int.natCast_mul]
  generalize hm : decide (a < 0) = m at hp
  generalize hk : decide (b < 0) = k at hp
  have Hm := Lib.hid hm
  have Hk := Lib.hid hk
  have Hx := Lib.hid hx
  have Hy := Lib.hid hy
  have Hp := Lib.hid hp
  clear hm hk hx hy hp
  go_enter Try.func20, Try.ntmps20
  go_wp2_with fail
  refine (Of_as a ha m x Hm Hx _).mono ?_
  rintro e w1 ⟨rfl, rfl⟩
  go_wp2_with fail
  refine (Of_as b hb k y Hk Hy _).mono ?_
  rintro e w2 ⟨rfl, rfl⟩
  go_wp2
  go_loopw [9, 10, 11] (fun v9 v10 v11 wr => ∃ acc mt kk : Nat, acc + mt * kk = x * y ∧ kk ≤ 9223372036854775808 ∧ v9 = .int .u64 (low mt : Nat) ∧ v10 = .bool (ovr mt) ∧ v11 = .int .u64 kk ∧ Below w.heap.size w wr ∧
      wr.heap[w.heap.size + 1 + 1 + 1 + 1]? = some (.cells #[.bool (!(m == k)), .bool (ovr acc), .int .u64 (low acc : Nat)] 41 (0, 0))) (fun _ _ v _ => (intOf v).toNat)
  case atStart => exact ⟨0, x, y, by simp, hy2, by rw [low_small (by omega)], by rw [ovr_small (by omega)], rfl, below5 _ _ _ _ _ _, new5 _ _ _ _ _ _⟩
  case round =>
    obtain ⟨acc, mt, kk, hinv, hkk, rfl, rfl, rfl, hB, hblk⟩ := hrel
    have c0 := blk_cell hblk 0
    have c1 := blk_cell hblk 1
    have c2 := blk_cell hblk 2
    have f1 := blk_frozen hblk 1
    have f2 := blk_frozen hblk 2
    simp at c0 c1 c2
    have Hinv := Lib.hid hinv
    have Hblk := Lib.hid hblk
    clear hinv hblk
    by_cases h0 : kk = 0
    · subst h0
      go_wp2_with fail
      refine (Told_num (a * b) (!(m == k)) (ovr acc) (low acc : Nat) (by have := low_lt acc; omega) (mul_over Hinv.out Hp.out) (mul_fits Hinv.out Hp.out) _).mono ?_
      rintro e w4 ⟨rfl, hb4⟩
      go_wp2
      go_ret2
      exact ⟨ret2 rfl rfl, hB.trans (hb4.mono hB.size)⟩
    · have hk0 : 0 < kk := by omega
      clear h0
      have hs := low_wrap acc mt
      have h2 := low_wrap2 mt
      have hr := low_lt mt
      have hn := low_lt acc
      have Hc := Lib.hid (ovr_add acc mt)
      have Hd := Lib.hid (ovr_twice mt)
      generalize hq : low (acc + mt) = s at hs Hc
      generalize hq2 : low (2 * mt) = r2 at h2
      generalize hqr : low mt = r at hs h2 hr Hc Hd
      generalize hqn : low acc = n at hs hn Hc c2 Hblk
      have Hs := Lib.hid hq
      have Hr2 := Lib.hid hq2
      have Hr := Lib.hid hqr
      have Hn := Lib.hid hqn
      clear hq hq2 hqr hqn
      generalize ho1 : ovr acc = o1 at c1 Hblk Hc
      generalize ho2 : ovr mt = o2 at Hc Hd
      have Ho1 := Lib.hid ho1
      have Ho2 := Lib.hid ho2
      clear ho1 ho2
      by_cases hodd : kk % 2 = 1
      · have hin := pow_step Hinv.out hodd
        have Hin := Lib.hid hin
        clear hin
        have ht : ((kk : Int) % 2 == 1) = true := by simp; omega
        cases o1 <;> cases o2
        all_goals
          go_wp2
          go_roundw
          case measure => simp [intOf]; omega
          case rel =>
            refine ⟨acc + mt, 2 * mt, kk / 2, Hin.out, by omega, ?_, ?_, by go_num, ?_, ?_⟩
            · rw [Hr2.out]
            · exact congrArg Value.bool (by rw [Hd.out]; first | rfl | (rw [Bool.false_or, decide_eq_decide]; omega))
            · exact (hB.setCell (by show w.heap.size ≤ w.heap.size + 1 + 1 + 1 + 1; omega) _).setCell (by show w.heap.size ≤ w.heap.size + 1 + 1 + 1 + 1; omega) _
            · rw [Hc.out, Hs.out]
              exact blk_set (blk_set Hblk.out 1 _) 2 _
      · have hin := pow_skip Hinv.out hodd
        have Hin := Lib.hid hin
        clear hin
        have ht : ((kk : Int) % 2 == 1) = false := by simp; omega
        cases o2
        all_goals
          go_wp2
          go_roundw
          case measure => simp [intOf]; omega
          case rel =>
            refine ⟨acc, 2 * mt, kk / 2, Hin.out, by omega, ?_, ?_, by go_num, ?_, ?_⟩
            · rw [Hr2.out]
            · exact congrArg Value.bool (by rw [Hd.out]; first | rfl | (rw [Bool.false_or, decide_eq_decide]; omega))
            · exact hB
            · rw [Ho1.out, Hn.out]
              exact Hblk.out
end Go.Proofs.Ythnafenkpcnlbaa.dig
