/- Layer 2: the document's own answers: Of, Told, add, Add, Sub, Div, Mod. -/
import Derived.Test.YthnafenkpcnlbaaDigLeaf
import Derived.Deep.RegionHeld3
namespace Go.Proofs.Ythnafenkpcnlbaa.dig
open Go.RowKit

/-- The document's Number. -/
def numV (m o : Bool) (n : Int) : Value := .agg #[.bool m, .bool o, .int .u64 n]
def numC (m o : Bool) (n : Int) : Obj := .cells #[.bool m, .bool o, .int .u64 n] 41

theorem Of_neg (a : Int) (ha : inI a) (h : a < 0) (w : World) :
    Calls Try.prog 32 #[.int .i64 a] w fun e w' => e = .returned (.agg #[.bool true, .bool false, .int .u64 (-a)]) ∧ w' = w.alloc (.cells #[.bool true, .bool false, .int .u64 (-a)] 41) := by
  unfold inI at ha
  have H := Lib.hid (show -(a + 1) + 1 = -a by omega)
  go_enter Try.func32, Try.ntmps32
  go_wp2
  rw [H.out]
  exact bodyPost_ret (v := .agg #[.bool true, .bool false, .int .u64 (-a)]) (by simp [results, Try.results32, go_sem]) rfl ⟨rfl, rfl⟩
theorem Of_pos (a : Int) (ha : inI a) (h : ¬ a < 0) (w : World) :
    Calls Try.prog 32 #[.int .i64 a] w fun e w' => e = .returned (.agg #[.bool false, .bool false, .int .u64 a]) ∧ w' = w.alloc (.cells #[.bool false, .bool false, .int .u64 a] 41) := by
  unfold inI at ha
  go_enter Try.func32, Try.ntmps32
  go_wp2
  exact bodyPost_ret (v := .agg #[.bool false, .bool false, .int .u64 a]) (by simp [results, Try.results32, go_sem]) rfl ⟨rfl, rfl⟩
theorem Of_any (a : Int) (ha : inI a) (w : World) :
    Calls Try.prog 32 #[.int .i64 a] w fun e w' => e = .returned (.agg #[.bool (decide (a < 0)), .bool false, .int .u64 (amt a)]) ∧ w' = w.alloc (.cells #[.bool (decide (a < 0)), .bool false, .int .u64 (amt a)] 41) := by
  by_cases h : a < 0
  · rw [amt_neg h, decide_eq_true h]
    exact Of_neg a ha h w
  · rw [amt_pos h, decide_eq_false h]
    exact Of_pos a ha h w

theorem Of_as (a : Int) (ha : inI a) (m : Bool) (x : Int) (hm : Hid (decide (a < 0) = m)) (hx : Hid (amt a = x)) (w : World) :
    Calls Try.prog 32 #[.int .i64 a] w fun e w' => e = .returned (.agg #[.bool m, .bool false, .int .u64 x]) ∧ w' = w.alloc (.cells #[.bool m, .bool false, .int .u64 x] 41) := by
  have h := Of_any a ha w
  rw [hm.out, hx.out] at h
  exact h

theorem told_neg (n : Int) (h : 1 ≤ n ∧ n ≤ 9223372036854775808) : wrap64 (-wrap64 (n - 1) - 1) = -n := by
  unfold wrap64; omega
theorem Told_over (m : Bool) (n : Int) (w : World) :
    Calls Try.prog 29 #[.agg #[.bool m, .bool true, .int .u64 n]] w fun e w' => e = .returned (.tuple #[.int .i64 0, .int .i64 16]) ∧ Below w.heap.size w w' := by
  go_enter Try.func29, Try.ntmps29
  go_wp2
  go_ret2
  exact ⟨rfl, (Below.refl _ _).alloc (Nat.le_refl _) _⟩
theorem Told_any (m : Bool) (n : Int) (hn : 0 ≤ n ∧ n ≤ 18446744073709551615) (w : World) :
    Calls Try.prog 29 #[.agg #[.bool m, .bool false, .int .u64 n]] w fun e w' => e = .returned (.tuple #[.int .i64 (tV (sgn m n)), .int .i64 (tE (sgn m n))]) ∧ Below w.heap.size w w' := by
  cases m
  · show Calls _ _ _ _ fun e w' => e = .returned (.tuple #[.int .i64 (tV n), .int .i64 (tE n)]) ∧ _
    by_cases h : 9223372036854775807 < n
    · have hi : ¬ inI n := by unfold inI; omega
      have H1 := Lib.hid (tV_out hi)
      have H2 := Lib.hid (tE_out hi)
      clear hi
      go_enter Try.func29, Try.ntmps29
      go_wp2
      go_ret2
      exact ⟨ret2 H1.out.symm H2.out.symm, (Below.refl _ _).alloc (Nat.le_refl _) _⟩
    · have hi : inI n := by unfold inI; omega
      have H1 := Lib.hid (tV_in hi)
      have H2 := Lib.hid (tE_in hi)
      unfold inI at hi
      go_enter Try.func29, Try.ntmps29
      go_wp2
      go_ret2
      exact ⟨ret2 H1.out.symm H2.out.symm, (Below.refl _ _).alloc (Nat.le_refl _) _⟩
  · show Calls _ _ _ _ fun e w' => e = .returned (.tuple #[.int .i64 (tV (-n)), .int .i64 (tE (-n))]) ∧ _
    by_cases h0 : n = 0
    · subst h0
      have H1 := Lib.hid (show tV (-0) = 0 from by decide +kernel)
      have H2 := Lib.hid (show tE (-0) = 0 from by decide +kernel)
      go_enter Try.func29, Try.ntmps29
      go_wp2
      go_ret2
      exact ⟨ret2 H1.out.symm H2.out.symm, (Below.refl _ _).alloc (Nat.le_refl _) _⟩
    · have hpos : 0 < n := by omega
      by_cases h : 9223372036854775808 < n
      · have hi : ¬ inI (-n) := by unfold inI; omega
        have H1 := Lib.hid (tV_out hi)
        have H2 := Lib.hid (tE_out hi)
        clear hi
        go_enter Try.func29, Try.ntmps29
        go_wp2
        go_ret2
        exact ⟨ret2 H1.out.symm H2.out.symm, (Below.refl _ _).alloc (Nat.le_refl _) _⟩
      · have hi : inI (-n) := by unfold inI; omega
        have H1 := Lib.hid (tV_in hi)
        have H2 := Lib.hid (tE_in hi)
        have H3 := Lib.hid (show -(n - 1) - 1 = -n by omega)
        clear hi
        go_enter Try.func29, Try.ntmps29
        go_wp2
        go_ret2
        exact ⟨ret2 (H3.out.trans H1.out.symm) H2.out.symm, (Below.refl _ _).alloc (Nat.le_refl _) _⟩

/-- A Number that stands for x: over, or x's amount and sign. -/
def NumP (x : Int) (w : World) (e : Ending) (w' : World) : Prop :=
  ∃ (m o : Bool) (n : Int), e = .returned (.agg #[.bool m, .bool o, .int .u64 n]) ∧ Below w.heap.size w w' ∧ (0 ≤ n ∧ n ≤ 18446744073709551615) ∧ (o = true → ¬ inI x) ∧ (o = false → sgn m n = x)
theorem Told_num (x : Int) (m o : Bool) (n : Int) (hn : 0 ≤ n ∧ n ≤ 18446744073709551615) (h1 : o = true → ¬ inI x) (h2 : o = false → sgn m n = x) (w : World) :
    Calls Try.prog 29 #[.agg #[.bool m, .bool o, .int .u64 n]] w fun e w' => e = .returned (.tuple #[.int .i64 (tV x), .int .i64 (tE x)]) ∧ Below w.heap.size w w' := by
  cases o
  · have e := h2 rfl
    subst e
    exact Told_any m n hn w
  · have hi := h1 rfl
    rw [tV_out hi, tE_out hi]
    exact Told_over m n w

theorem below3 (w : World) (a b c : Obj) : Below w.heap.size w (((w.alloc a).alloc b).alloc c) :=
  (((Below.refl _ _).alloc (Nat.le_refl _) _).alloc (by simp) _).alloc (by simp; omega) _
theorem sum_wrap : IntKind.u64.wrap 18446744073709551616 = 0 := by decide +kernel
set_option maxHeartbeats 400000 in
theorem add_same (m : Bool) (x y : Int) (hx : 0 ≤ x ∧ x ≤ 9223372036854775808) (hy : 0 ≤ y ∧ y ≤ 9223372036854775808) (w : World) :
    Calls Try.prog 33 #[.agg #[.bool m, .bool false, .int .u64 x], .agg #[.bool m, .bool false, .int .u64 y]] w (NumP (sgn m x + sgn m y) w) := by
  by_cases h : x + y ≤ 18446744073709551615
  · have hd : decide (x + y < x) = false := decide_eq_false (by omega)
    have hm : (m == m) = true := by simp
    have Hf := Lib.hid (show sgn m (x + y) = sgn m x + sgn m y by unfold sgn; cases m <;> simp; omega)
    go_enter Try.func33, Try.ntmps33
    go_wp2
    refine bodyPost_ret (v := .agg #[.bool m, .bool false, .int .u64 (x + y)]) (by simp [results, Try.results33, go_sem]) rfl ?_
    exact ⟨m, false, _, rfl, below3 _ _ _ _, by omega, fun h => by (cases h), fun _ => Hf.out⟩
  · have hx' : x = 9223372036854775808 := by omega
    have hy' : y = 9223372036854775808 := by omega
    have Hf := Lib.hid (show ¬ inI (sgn m x + sgn m y) by unfold sgn inI; cases m <;> simp <;> omega)
    subst hx' hy'
    clear h
    have hm : (m == m) = true := by simp
    go_enter Try.func33, Try.ntmps33
    go_wp2
    refine bodyPost_ret (v := .agg #[.bool m, .bool true, .int .u64 0]) (by simp [results, Try.results33, go_sem, sum_wrap]) rfl ?_
    exact ⟨m, true, _, rfl, below3 _ _ _ _, by omega, fun _ => Hf.out, fun h => by (cases h)⟩
set_option maxHeartbeats 400000 in
theorem add_other (m k : Bool) (hmk : (m == k) = false) (x y : Int) (hx : 0 ≤ x ∧ x ≤ 9223372036854775808) (hy : 0 ≤ y ∧ y ≤ 9223372036854775808) (w : World) :
    Calls Try.prog 33 #[.agg #[.bool m, .bool false, .int .u64 x], .agg #[.bool k, .bool false, .int .u64 y]] w (NumP (sgn m x + sgn k y) w) := by
  by_cases h : y ≤ x
  · have Hf := Lib.hid (show sgn m (x - y) = sgn m x + sgn k y by unfold sgn; cases m <;> cases k <;> simp at hmk ⊢ <;> omega)
    go_enter Try.func33, Try.ntmps33
    go_wp2
    refine bodyPost_ret (v := .agg #[.bool m, .bool false, .int .u64 (x - y)]) (by simp [results, Try.results33, go_sem]) rfl ?_
    exact ⟨m, false, _, rfl, below3 _ _ _ _, by omega, fun h => by (cases h), fun _ => Hf.out⟩
  · have Hf := Lib.hid (show sgn k (y - x) = sgn m x + sgn k y by unfold sgn; cases m <;> cases k <;> simp at hmk ⊢ <;> omega)
    go_enter Try.func33, Try.ntmps33
    go_wp2
    refine bodyPost_ret (v := .agg #[.bool k, .bool false, .int .u64 (y - x)]) (by simp [results, Try.results33, go_sem]) rfl ?_
    exact ⟨k, false, _, rfl, below3 _ _ _ _, by omega, fun h => by (cases h), fun _ => Hf.out⟩
theorem add_any (m k : Bool) (x y : Int) (hx : 0 ≤ x ∧ x ≤ 9223372036854775808) (hy : 0 ≤ y ∧ y ≤ 9223372036854775808) (w : World) :
    Calls Try.prog 33 #[.agg #[.bool m, .bool false, .int .u64 x], .agg #[.bool k, .bool false, .int .u64 y]] w (NumP (sgn m x + sgn k y) w) := by
  by_cases h : m = k
  · subst h; exact add_same m x y hx hy w
  · exact add_other m k (by simpa using h) x y hx hy w

theorem sgn_amt (a : Int) : sgn (decide (a < 0)) (amt a) = a := by
  unfold sgn amt; by_cases h : a < 0 <;> simp [h]
theorem sgn_not (m : Bool) (n : Int) : sgn (!m) n = -sgn m n := by
  unfold sgn; cases m <;> simp
set_option maxHeartbeats 400000 in
theorem RefAdd_any (a b : Int) (ha : inI a) (hb : inI b) (w : World) :
    Calls Try.prog 16 #[.int .i64 a, .int .i64 b] w fun e w' => e = .returned (.tuple #[.int .i64 (tV (a + b)), .int .i64 (tE (a + b))]) ∧ Below w.heap.size w w' := by
  have Hp := Lib.hid (show sgn (decide (a < 0)) (amt a) + sgn (decide (b < 0)) (amt b) = a + b by rw [sgn_amt, sgn_amt])
  go_enter Try.func16, Try.ntmps16
  go_wp2_with fail
  refine (Of_any a ha _).mono ?_
  rintro e w1 ⟨rfl, rfl⟩
  go_wp2_with fail
  refine (Of_any b hb _).mono ?_
  rintro e w2 ⟨rfl, rfl⟩
  go_wp2_with fail
  refine (add_any _ _ _ _ (amt_bd ha) (amt_bd hb) _).mono ?_
  rintro e w3 ⟨m, o, n, rfl, hb3, hn, h1, h2⟩
  rw [Hp.out] at h1 h2
  have H1 := Lib.hid h1
  have H2 := Lib.hid h2
  clear h1 h2
  go_wp2_with fail
  refine (Told_num (a + b) m o n hn H1.out H2.out _).mono ?_
  rintro e w4 ⟨rfl, hb4⟩
  go_wp2
  go_ret2
  refine ⟨ret2 rfl rfl, ?_⟩
  have hz := hb3.size
  simp at hz
  exact (((Below.refl _ _).alloc (Nat.le_refl _) _).alloc (by simp) _).trans ((hb3.mono (by simp; omega)).trans (hb4.mono (by omega)))
theorem bcell {W w1 : World} (hb : Below W.heap.size W w1) : (∀ b o, b < W.heap.size → w1.cell? ⟨b, o, none⟩ = W.cell? ⟨b, o, none⟩) ∧ (∀ b o, b < W.heap.size → w1.frozen? ⟨b, o, none⟩ = W.frozen? ⟨b, o, none⟩) :=
  ⟨fun b o h => hb.cell (p := ⟨b, o, none⟩) h, fun b o h => hb.frozen (p := ⟨b, o, none⟩) h⟩
theorem new4 (w : World) (o1 o2 o3 : Obj) (cs : Array Value) (t : TypeId) (i : Nat) : ((((w.alloc o1).alloc o2).alloc o3).alloc (.cells cs t)).cell? ⟨w.heap.size + 1 + 1 + 1, i, none⟩ = cs[i]? :=
  cell_of_row _ _ i cs t (0, 0) (by
    have h := heap_alloc_new (((w.alloc o1).alloc o2).alloc o3) (.cells cs t)
    simp only [World.size_alloc] at h
    exact h)
theorem below4 (w : World) (a b c d : Obj) : Below w.heap.size w ((((w.alloc a).alloc b).alloc c).alloc d) := (below3 w a b c).alloc (by simp; omega) _
theorem tmod_in {a b : Int} (hb : inI b) (h0 : b ≠ 0) : inI (a.tmod b) := by
  rw [tmod_sgn]
  have h1 := Int.emod_nonneg (amt a) (show amt b ≠ 0 by unfold inI at hb; unfold amt; split <;> omega)
  have h2 := Int.emod_lt_of_pos (amt a) (show 0 < amt b by unfold inI at hb; unfold amt; split <;> omega)
  have h3 := amt_bd hb
  unfold inI sgn
  cases decide (a < 0)
  · simp only [cond_false]; omega
  · simp only [cond_true]; omega
theorem below_undrew {B : Nat} {a w : World} (h : Below B a.drew w) : Below B a w := ⟨h.os, h.tape, h.output, h.size, h.block⟩
theorem below_undrewN {B : Nat} {a w : World} {n : Nat} (h : Below B (a.drewN n) w) : Below B a w := ⟨h.os, h.tape, h.output, h.size, h.block⟩
theorem boxed (w : World) (t : TypeId) (u1 u2 u3 : Value) (w' : World) (h : w' = w.alloc (.cells #[u1, u2, u3] t)) : w'.cell? ⟨w.heap.size, 0, none⟩ = some u1 ∧ w'.cell? ⟨w.heap.size, 1, none⟩ = some u2 ∧ w'.cell? ⟨w.heap.size, 2, none⟩ = some u3 := by
  subst h; simp
set_option maxHeartbeats 800000 in
theorem RefSub_any (a b : Int) (ha : inI a) (hb : inI b) (w : World) :
    Calls Try.prog 18 #[.int .i64 a, .int .i64 b] w fun e w' => e = .returned (.tuple #[.int .i64 (tV (a - b)), .int .i64 (tE (a - b))]) ∧ Below w.heap.size w w' := by
  have Hp := Lib.hid (show sgn (decide (a < 0)) (amt a) + sgn (!decide (b < 0)) (amt b) = a - b by rw [sgn_amt, sgn_not, sgn_amt]; omega)
  go_enter Try.func18, Try.ntmps18
  go_wp2_with fail
  refine (Of_any b hb _).mono ?_
  rintro e w1 ⟨rfl, rfl⟩
  go_wp2_with fail
  go_region_held3 (fun w' => w'.cell? ⟨w.heap.size + 1, 0, none⟩ = some (.bool (!decide (b < 0))) ∧ w'.cell? ⟨w.heap.size + 1, 1, none⟩ = some (.bool false) ∧ w'.cell? ⟨w.heap.size + 1, 2, none⟩ = some (.int .u64 (amt b)))
    (first | go_keep)
    (first
      | (go_at_call 32; refine (Of_any a ha _).mono ?_; rintro e w2 ⟨rfl, rfl⟩)
      | (go_at_call 33; refine (add_any _ _ _ _ (amt_bd ha) (amt_bd hb) _).mono ?_; rintro e w3 ⟨m, o, n, rfl, hb3, hn, h1, h2⟩; rw [Hp.out] at h1 h2; have H1 := Lib.hid h1; have H2 := Lib.hid h2; clear h1 h2; obtain ⟨hc3, hf3⟩ := bcell hb3; have hz3 : w.heap.size + 1 < w3.heap.size := (by have := hb3.size; simp at this; omega))
      | (go_at_call 29; refine (Told_num (a - b) _ _ _ hn H1.out H2.out _).mono ?_; rintro e w4 ⟨rfl, hb4⟩; obtain ⟨hc4, hf4⟩ := bcell hb4))
  go_wp2
  go_ret2
  refine ⟨ret2 rfl rfl, ?_⟩
  have hz := hb3.size
  simp at hz
  exact (below3 _ _ _ _).trans (((below_undrew hb3).mono (by simp; omega)).trans (hb4.mono (by omega)))

theorem amt_bd1 {x : Int} (h : inI x) (h0 : x ≠ 0) : 1 ≤ amt x := by
  unfold inI at h; unfold amt; split <;> omega
theorem quo_bd {x y : Int} (hx : 0 ≤ x ∧ x ≤ 9223372036854775808) (hy : 1 ≤ y) : 0 ≤ x / y ∧ x / y ≤ 18446744073709551615 := by
  have := IntWalk.tdiv_le x y hx.1 hy
  omega
theorem rem_bd {x y : Int} (hx : 0 ≤ x ∧ x ≤ 9223372036854775808) (hy : 1 ≤ y) : 0 ≤ x % y ∧ x % y ≤ 18446744073709551615 := by
  have h1 := Int.emod_nonneg x (show y ≠ 0 by omega)
  have h2 : x % y ≤ x := by
    by_cases h : x < y
    · rw [Int.emod_eq_of_lt hx.1 h]; exact Int.le_refl _
    · have := Int.emod_lt_of_pos x (show 0 < y by omega); omega
  omega
end Go.Proofs.Ythnafenkpcnlbaa.dig
