/- Layer 1: the contract of the document's own Next. -/
import Derived.Laws.ResultCell
import Derived.Test.YteocenjneoclbaaDoorTrmUNext
namespace Go.Proofs.YteocenjneoclbaaDoor.utf
open Go.RowKit

def found (p : Nat × Nat) : Value := .agg #[.int .i64 p.1, .int .i64 p.2]

theorem racc_bd (l : List UInt8) : ∀ (p : Int) (B : Nat), 64 ≤ B → -(B : Int) ≤ p → p ≤ B → -((B * 66 ^ l.length : Nat) : Int) ≤ racc p l ∧ racc p l ≤ ((B * 66 ^ l.length : Nat) : Int) := by
  induction l with
  | nil => intro p B _ h1 h2; simp only [racc, List.length_nil, Nat.pow_zero, Nat.mul_one]; exact ⟨h1, h2⟩
  | cons b l ih =>
    intro p B hB h1 h2
    have hb := b.toNat_lt
    have := ih (p * 64 + b.toNat - 128) (B * 66) (by omega) (by omega) (by omega)
    rw [List.length_cons, Nat.pow_succ, Nat.mul_comm (66 ^ l.length) 66, ← Nat.mul_assoc]
    exact this
theorem racc_in (l : List UInt8) (p : Int) (h1 : 0 ≤ p) (h2 : p ≤ 256) (hl : l.length ≤ 3) : -100000000 ≤ racc p l ∧ racc p l ≤ 100000000 := by
  have h := racc_bd l p 256 (by omega) (by omega) (by omega)
  have h66 : 66 ^ l.length ≤ 66 ^ 3 := Nat.pow_le_pow_right (by omega) hl
  have hm : 256 * 66 ^ l.length ≤ 256 * 66 ^ 3 := Nat.mul_le_mul_left _ h66
  omega
theorem racc_snoc (l : List UInt8) : ∀ (p : Int) (b : UInt8), racc p (l ++ [b]) = racc p l * 64 + b.toNat - 128 := by
  induction l with
  | nil => intro p b; rfl
  | cons x l ih => intro p b; exact ih _ b
theorem two_set {w1 : World} {g : Nat} {x y a b : Value} {t : TypeId} (h : w1.heap[g]? = some (.cells #[x, y] t (0, 0))) : ((w1.setCell ⟨g, 0, none⟩ a).setCell ⟨g, 1, none⟩ b).heap[g]? = some (.cells #[a, b] t (0, 0)) := by
  simp [World.setCell, Array.getElem?_modify, h]
theorem cells_of2 {w1 : World} {g : Nat} {x y : Value} {t : TypeId} (h : w1.heap[g]? = some (.cells #[x, y] t (0, 0))) :
    w1.cell? ⟨g, 0, none⟩ = some x ∧ w1.cell? ⟨g, 1, none⟩ = some y ∧ w1.frozen? ⟨g, 0, none⟩ = false ∧ w1.frozen? ⟨g, 1, none⟩ = false := by
  refine ⟨by rw [cell_of_row w1 g 0 _ t (0, 0) h]; rfl, by rw [cell_of_row w1 g 1 _ t (0, 0) h]; rfl, ?_, ?_⟩ <;> simp [World.frozen?, h]
theorem found_size : (Tryd.prog.info? 99).map (·.size) = some 2 := by kernel_rfl
theorem ret_found {a : Int} {b : Int} {p : Nat × Nat} (h1 : a = p.1) (h2 : b = p.2) : Ending.returned (.agg #[.int .i64 a, .int .i64 b]) = .returned (found p) := by
  rw [h1, h2]; rfl
theorem below_two {w w1 : World} {o : Obj} (hb : Below (w.alloc o).heap.size (w.alloc o) w1) (a b : Value) : Below w.heap.size w ((w1.setCell ⟨w.heap.size, 0, none⟩ a).setCell ⟨w.heap.size, 1, none⟩ b) :=
  (((((Below.refl _ w).alloc (Nat.le_refl _) o).trans (hb.mono (by simp))).setCell (p := ⟨w.heap.size, 0, none⟩) (Nat.le_refl _) _).setCell (p := ⟨w.heap.size, 1, none⟩) (Nat.le_refl _) _)
theorem wr_in (q : Int) (b : Nat) (h1 : -100000000 ≤ q) (h2 : q ≤ 100000000) (hb : b < 256) : wrap64 (wrap64 (q * 64 + wrap64 (b : Int)) - 128) = q * 64 + b - 128 := by
  rw [IntWalk.wrap64_in (b : Int) (by omega), IntWalk.wrap64_in (q * 64 + b) (by omega), IntWalk.wrap64_in _ (by omega)]

set_option maxRecDepth 100000 in
set_option maxRecDepth 100000 in
set_option maxHeartbeats 1000000 in
theorem refNext_one (s : ByteArray) (hs : s.size ≤ maxLen) (k : Nat) (hk : k < s.size) (g0 : s[k].toNat < 192) (_h : 1 + k ≤ s.size) (r : List UInt8) (hr : s.data.toList.drop (k + 1) = r) (w : World) :
    Calls Tryd.prog 89 #[.string s, .int .i64 k] w fun e w' => e = .returned (found (nxt (s[k] :: r))) ∧ Below w.heap.size w w' := by
  unfold maxLen at hs
  have i9 : 0 ≤ (s[k].toNat : Int) := by omega
  have i8 : (s[k].toNat : Int) < 256 := by have := s[k].toNat_lt; omega
  have i0 : (s[k].toNat : Int) < 192 := by omega
  clear g0
  have Hr : Hid (∀ j (h : k + (j + 1) < s.size), r[j]? = some s[k + (j + 1)]) := fun j hj => by
    have hl : k + 1 + j < s.data.toList.length := by rw [Array.length_toList]; show k + 1 + j < s.size; omega
    rw [← hr, List.getElem?_drop, List.getElem?_eq_getElem hl]
    congr 1
    rw [Array.getElem_toList]
    show s.data[k + 1 + j] = s.data[k + (j + 1)]
    congr 1
    omega
  have hrn : rn s[k].toNat = 1 ∧ ((rlow s[k].toNat : Nat) : Int) = (s[k].toNat : Int) := by
    unfold rn rlow
    constructor
    · ((repeat' split) <;> omega)
    · ((repeat' split) <;> omega)
  have hrl : 0 ≤ r.length := by
    rw [← hr, List.length_drop, Array.length_toList]
    show 0 ≤ s.size - (k + 1)
    omega
  have Hyes : Hid (isPt (racc ((s[k].toNat : Int)) (r.take 0)) = true → enc (racc ((s[k].toNat : Int)) (r.take 0)) = (s[k] :: r).take 1 → nxt (s[k] :: r) = ((racc ((s[k].toNat : Int)) (r.take 0)).toNat, 1)) := by
    intro a b
    have := ref_yes (c := s[k]) (r := r) (q := racc ((s[k].toNat : Int)) (r.take 0)) (by omega) a (by rw [hrn.1]; exact b)
    rw [hrn.1] at this
    exact this
  have Hno : Hid (¬ (isPt (racc ((s[k].toNat : Int)) (r.take 0)) = true ∧ enc (racc ((s[k].toNat : Int)) (r.take 0)) = (s[k] :: r).take 1) → nxt (s[k] :: r) = (0, 0)) := by
    intro a
    have := ref_no (c := s[k]) (r := r)
    rw [hrn.1, hrn.2] at this
    exact this a
  have Hdr : Hid (s.data.toList.drop k = s[k] :: r) := by
    rw [← hr]; exact drop_cons s k hk
  clear hrn hr
  go_enter Tryd.func89, Tryd.ntmps89
  go_wp2
  have Hbd : Hid (∀ j, j ≤ 0 → -100000000 ≤ racc ((s[k].toNat : Int)) (r.take j) ∧ racc ((s[k].toNat : Int)) (r.take j) ≤ 100000000) := fun j hj => racc_in _ _ (by omega) (by omega) (by rw [List.length_take]; omega)
  go_loop [7, 8] (fun pt i => ∃ j : Nat, j ≤ 0 ∧ i = .int .i64 (j + 1 : Nat) ∧ pt = .int .i64 (racc ((s[k].toNat : Int)) (r.take j))) (fun _ i => 1 - (intOf i).toNat)
  case atStart => exact ⟨0, by omega, rfl, rfl⟩
  case round =>
    obtain ⟨j, hj, rfl, rfl⟩ := hrel
    obtain ⟨hbd1, hbd2⟩ := Hbd.out j hj
    by_cases hlt : j < 0
    · omega
    · obtain rfl : j = 0 := by omega
      have hyes := Hyes.out
      have hno := Hno.out
      obtain ⟨q, hq⟩ : ∃ q, racc ((s[k].toNat : Int)) (r.take 0) = q := ⟨_, rfl⟩
      rw [hq] at hbd1 hbd2 hyes hno ⊢
      have Hq := Lib.hid hq
      clear hq
      cases hp : isPt q
      · have Hfin : Hid (nxt (s[k] :: r) = (0, 0)) := hno (fun hh => by rw [hp] at hh; cases hh.1)
        clear hyes hno
        go_wp2_with fail
        refine (refEncode_any _ _).mono ?_
        rintro e w1 ⟨rfl, hb1⟩
        rw [hp]
        have hbk := (hb1.block w.heap.size (by simp)).trans (heap_alloc_new w _)
        obtain ⟨c0, c1, f0, f1⟩ := cells_of2 hbk
        have Hbk := Lib.hid hbk
        clear hbk
        go_wp2
        refine bodyPost_ret (results_cell_row rfl _ _ w.heap.size 99 _ (0, 0) _ rfl (two_set Hbk.out) Tryd.underlying99 rfl found_size) rfl ⟨ret_found (by rw [Hfin.out]; rfl) (by rw [Hfin.out]; rfl), below_two hb1 _ _⟩
      · have hsl : (s.extract k (k + 1)).toList = (s[k] :: r).take 1 := by
          rw [Lib.extract_toList, Hdr.out]
          congr 1
          omega
        by_cases hq : enc q = (s[k] :: r).take 1
        · have Hfin : Hid (nxt (s[k] :: r) = (q.toNat, 1)) := hyes hp hq
          have hq0 : 0 ≤ q := ((isPt_iff q).1 hp).1
          have ht : (enc q == (s.extract k (k + 1)).toList) = true := by
            rw [beq_iff_eq, hsl, ← hq]
          clear hyes hno hsl hq
          go_wp2_with fail
          refine (refEncode_any _ _).mono ?_
          rintro e w1 ⟨rfl, hb1⟩
          rw [hp]
          have hbk := (hb1.block w.heap.size (by simp)).trans (heap_alloc_new w _)
          obtain ⟨c0, c1, f0, f1⟩ := cells_of2 hbk
          have Hbk := Lib.hid hbk
          clear hbk
          go_wp2
          refine bodyPost_ret (results_cell_row rfl _ _ w.heap.size 99 _ (0, 0) _ rfl (two_set Hbk.out) Tryd.underlying99 rfl found_size) rfl ⟨ret_found (by rw [Hfin.out]; exact (Int.toNat_of_nonneg hq0).symm) (by rw [Hfin.out]; rfl), below_two hb1 _ _⟩
        · have Hfin : Hid (nxt (s[k] :: r) = (0, 0)) := hno (fun hh => hq hh.2)
          have ht : (enc q == (s.extract k (k + 1)).toList) = false := by
            rw [beq_eq_false_iff_ne, hsl]; exact hq
          clear hyes hno hsl hq
          go_wp2_with fail
          refine (refEncode_any _ _).mono ?_
          rintro e w1 ⟨rfl, hb1⟩
          rw [hp]
          have hbk := (hb1.block w.heap.size (by simp)).trans (heap_alloc_new w _)
          obtain ⟨c0, c1, f0, f1⟩ := cells_of2 hbk
          have Hbk := Lib.hid hbk
          clear hbk
          go_wp2
          refine bodyPost_ret (results_cell_row rfl _ _ w.heap.size 99 _ (0, 0) _ rfl (two_set Hbk.out) Tryd.underlying99 rfl found_size) rfl ⟨ret_found (by rw [Hfin.out]; rfl) (by rw [Hfin.out]; rfl), below_two hb1 _ _⟩

set_option maxRecDepth 100000 in
set_option maxRecDepth 100000 in
set_option maxHeartbeats 1000000 in
theorem refNext_two (s : ByteArray) (hs : s.size ≤ maxLen) (k : Nat) (hk : k < s.size) (g0 : 192 ≤ s[k].toNat) (g1 : s[k].toNat < 224) (h : 2 + k ≤ s.size) (r : List UInt8) (hr : s.data.toList.drop (k + 1) = r) (w : World) :
    Calls Tryd.prog 89 #[.string s, .int .i64 k] w fun e w' => e = .returned (found (nxt (s[k] :: r))) ∧ Below w.heap.size w w' := by
  unfold maxLen at hs
  have i9 : 0 ≤ (s[k].toNat : Int) := by omega
  have i8 : (s[k].toNat : Int) < 256 := by have := s[k].toNat_lt; omega
  have i0 : 192 ≤ (s[k].toNat : Int) := by omega
  have i1 : (s[k].toNat : Int) < 224 := by omega
  clear g0 g1
  have Hr : Hid (∀ j (h : k + (j + 1) < s.size), r[j]? = some s[k + (j + 1)]) := fun j hj => by
    have hl : k + 1 + j < s.data.toList.length := by rw [Array.length_toList]; show k + 1 + j < s.size; omega
    rw [← hr, List.getElem?_drop, List.getElem?_eq_getElem hl]
    congr 1
    rw [Array.getElem_toList]
    show s.data[k + 1 + j] = s.data[k + (j + 1)]
    congr 1
    omega
  have hrn : rn s[k].toNat = 2 ∧ ((rlow s[k].toNat : Nat) : Int) = (s[k].toNat : Int) - 192 := by
    unfold rn rlow
    constructor
    · ((repeat' split) <;> omega)
    · ((repeat' split) <;> omega)
  have hrl : 1 ≤ r.length := by
    rw [← hr, List.length_drop, Array.length_toList]
    show 1 ≤ s.size - (k + 1)
    omega
  have Hyes : Hid (isPt (racc ((s[k].toNat : Int) - 192) (r.take 1)) = true → enc (racc ((s[k].toNat : Int) - 192) (r.take 1)) = (s[k] :: r).take 2 → nxt (s[k] :: r) = ((racc ((s[k].toNat : Int) - 192) (r.take 1)).toNat, 2)) := by
    intro a b
    have := ref_yes (c := s[k]) (r := r) (q := racc ((s[k].toNat : Int) - 192) (r.take 1)) (by omega) a (by rw [hrn.1]; exact b)
    rw [hrn.1] at this
    exact this
  have Hno : Hid (¬ (isPt (racc ((s[k].toNat : Int) - 192) (r.take 1)) = true ∧ enc (racc ((s[k].toNat : Int) - 192) (r.take 1)) = (s[k] :: r).take 2) → nxt (s[k] :: r) = (0, 0)) := by
    intro a
    have := ref_no (c := s[k]) (r := r)
    rw [hrn.1, hrn.2] at this
    exact this a
  have Hdr : Hid (s.data.toList.drop k = s[k] :: r) := by
    rw [← hr]; exact drop_cons s k hk
  clear hrn hr
  go_enter Tryd.func89, Tryd.ntmps89
  go_wp2
  have Hbd : Hid (∀ j, j ≤ 1 → -100000000 ≤ racc ((s[k].toNat : Int) - 192) (r.take j) ∧ racc ((s[k].toNat : Int) - 192) (r.take j) ≤ 100000000) := fun j hj => racc_in _ _ (by omega) (by omega) (by rw [List.length_take]; omega)
  go_loop [7, 8] (fun pt i => ∃ j : Nat, j ≤ 1 ∧ i = .int .i64 (j + 1 : Nat) ∧ pt = .int .i64 (racc ((s[k].toNat : Int) - 192) (r.take j))) (fun _ i => 2 - (intOf i).toNat)
  case atStart => exact ⟨0, by omega, rfl, rfl⟩
  case round =>
    obtain ⟨j, hj, rfl, rfl⟩ := hrel
    obtain ⟨hbd1, hbd2⟩ := Hbd.out j hj
    by_cases hlt : j < 1
    · have hlt' : (j + 1 : Nat) < 2 := by omega
      have hix : k + (j + 1) < s.size := by omega
      have hrj : r[j]? = some s[k + (j + 1)] := Hr.out j hix
      have Hsn := Lib.hid (take_snoc r j _ hrj)
      have HW := Lib.hid (wr_in _ s[k + (j + 1)].toNat hbd1 hbd2 s[k + (j + 1)].toNat_lt)
      clear hrj
      obtain ⟨q, hq⟩ : ∃ q, racc ((s[k].toNat : Int) - 192) (r.take j) = q := ⟨_, rfl⟩
      rw [hq] at HW hbd1 hbd2 ⊢
      have Hq := Lib.hid hq
      clear hq
      go_wp2
      go_round
      case rel => exact ⟨j + 1, by omega, by go_num, by rw [HW.out, Hsn.out, racc_snoc, Hq.out]⟩
      case measure => simp [intOf]; omega
    · obtain rfl : j = 1 := by omega
      have hyes := Hyes.out
      have hno := Hno.out
      obtain ⟨q, hq⟩ : ∃ q, racc ((s[k].toNat : Int) - 192) (r.take 1) = q := ⟨_, rfl⟩
      rw [hq] at hbd1 hbd2 hyes hno ⊢
      have Hq := Lib.hid hq
      clear hq
      cases hp : isPt q
      · have Hfin : Hid (nxt (s[k] :: r) = (0, 0)) := hno (fun hh => by rw [hp] at hh; cases hh.1)
        clear hyes hno
        go_wp2_with fail
        refine (refEncode_any _ _).mono ?_
        rintro e w1 ⟨rfl, hb1⟩
        rw [hp]
        have hbk := (hb1.block w.heap.size (by simp)).trans (heap_alloc_new w _)
        obtain ⟨c0, c1, f0, f1⟩ := cells_of2 hbk
        have Hbk := Lib.hid hbk
        clear hbk
        go_wp2
        refine bodyPost_ret (results_cell_row rfl _ _ w.heap.size 99 _ (0, 0) _ rfl (two_set Hbk.out) Tryd.underlying99 rfl found_size) rfl ⟨ret_found (by rw [Hfin.out]; rfl) (by rw [Hfin.out]; rfl), below_two hb1 _ _⟩
      · have hsl : (s.extract k (k + 2)).toList = (s[k] :: r).take 2 := by
          rw [Lib.extract_toList, Hdr.out]
          congr 1
          omega
        by_cases hq : enc q = (s[k] :: r).take 2
        · have Hfin : Hid (nxt (s[k] :: r) = (q.toNat, 2)) := hyes hp hq
          have hq0 : 0 ≤ q := ((isPt_iff q).1 hp).1
          have ht : (enc q == (s.extract k (k + 2)).toList) = true := by
            rw [beq_iff_eq, hsl, ← hq]
          clear hyes hno hsl hq
          go_wp2_with fail
          refine (refEncode_any _ _).mono ?_
          rintro e w1 ⟨rfl, hb1⟩
          rw [hp]
          have hbk := (hb1.block w.heap.size (by simp)).trans (heap_alloc_new w _)
          obtain ⟨c0, c1, f0, f1⟩ := cells_of2 hbk
          have Hbk := Lib.hid hbk
          clear hbk
          go_wp2
          refine bodyPost_ret (results_cell_row rfl _ _ w.heap.size 99 _ (0, 0) _ rfl (two_set Hbk.out) Tryd.underlying99 rfl found_size) rfl ⟨ret_found (by rw [Hfin.out]; exact (Int.toNat_of_nonneg hq0).symm) (by rw [Hfin.out]; rfl), below_two hb1 _ _⟩
        · have Hfin : Hid (nxt (s[k] :: r) = (0, 0)) := hno (fun hh => hq hh.2)
          have ht : (enc q == (s.extract k (k + 2)).toList) = false := by
            rw [beq_eq_false_iff_ne, hsl]; exact hq
          clear hyes hno hsl hq
          go_wp2_with fail
          refine (refEncode_any _ _).mono ?_
          rintro e w1 ⟨rfl, hb1⟩
          rw [hp]
          have hbk := (hb1.block w.heap.size (by simp)).trans (heap_alloc_new w _)
          obtain ⟨c0, c1, f0, f1⟩ := cells_of2 hbk
          have Hbk := Lib.hid hbk
          clear hbk
          go_wp2
          refine bodyPost_ret (results_cell_row rfl _ _ w.heap.size 99 _ (0, 0) _ rfl (two_set Hbk.out) Tryd.underlying99 rfl found_size) rfl ⟨ret_found (by rw [Hfin.out]; rfl) (by rw [Hfin.out]; rfl), below_two hb1 _ _⟩

set_option maxRecDepth 100000 in
set_option maxRecDepth 100000 in
set_option maxHeartbeats 1000000 in
theorem refNext_three (s : ByteArray) (hs : s.size ≤ maxLen) (k : Nat) (hk : k < s.size) (g0 : 224 ≤ s[k].toNat) (g1 : s[k].toNat < 240) (h : 3 + k ≤ s.size) (r : List UInt8) (hr : s.data.toList.drop (k + 1) = r) (w : World) :
    Calls Tryd.prog 89 #[.string s, .int .i64 k] w fun e w' => e = .returned (found (nxt (s[k] :: r))) ∧ Below w.heap.size w w' := by
  unfold maxLen at hs
  have i9 : 0 ≤ (s[k].toNat : Int) := by omega
  have i8 : (s[k].toNat : Int) < 256 := by have := s[k].toNat_lt; omega
  have i0 : 224 ≤ (s[k].toNat : Int) := by omega
  have i1 : (s[k].toNat : Int) < 240 := by omega
  clear g0 g1
  have Hr : Hid (∀ j (h : k + (j + 1) < s.size), r[j]? = some s[k + (j + 1)]) := fun j hj => by
    have hl : k + 1 + j < s.data.toList.length := by rw [Array.length_toList]; show k + 1 + j < s.size; omega
    rw [← hr, List.getElem?_drop, List.getElem?_eq_getElem hl]
    congr 1
    rw [Array.getElem_toList]
    show s.data[k + 1 + j] = s.data[k + (j + 1)]
    congr 1
    omega
  have hrn : rn s[k].toNat = 3 ∧ ((rlow s[k].toNat : Nat) : Int) = (s[k].toNat : Int) - 224 := by
    unfold rn rlow
    constructor
    · ((repeat' split) <;> omega)
    · ((repeat' split) <;> omega)
  have hrl : 2 ≤ r.length := by
    rw [← hr, List.length_drop, Array.length_toList]
    show 2 ≤ s.size - (k + 1)
    omega
  have Hyes : Hid (isPt (racc ((s[k].toNat : Int) - 224) (r.take 2)) = true → enc (racc ((s[k].toNat : Int) - 224) (r.take 2)) = (s[k] :: r).take 3 → nxt (s[k] :: r) = ((racc ((s[k].toNat : Int) - 224) (r.take 2)).toNat, 3)) := by
    intro a b
    have := ref_yes (c := s[k]) (r := r) (q := racc ((s[k].toNat : Int) - 224) (r.take 2)) (by omega) a (by rw [hrn.1]; exact b)
    rw [hrn.1] at this
    exact this
  have Hno : Hid (¬ (isPt (racc ((s[k].toNat : Int) - 224) (r.take 2)) = true ∧ enc (racc ((s[k].toNat : Int) - 224) (r.take 2)) = (s[k] :: r).take 3) → nxt (s[k] :: r) = (0, 0)) := by
    intro a
    have := ref_no (c := s[k]) (r := r)
    rw [hrn.1, hrn.2] at this
    exact this a
  have Hdr : Hid (s.data.toList.drop k = s[k] :: r) := by
    rw [← hr]; exact drop_cons s k hk
  clear hrn hr
  go_enter Tryd.func89, Tryd.ntmps89
  go_wp2
  have Hbd : Hid (∀ j, j ≤ 2 → -100000000 ≤ racc ((s[k].toNat : Int) - 224) (r.take j) ∧ racc ((s[k].toNat : Int) - 224) (r.take j) ≤ 100000000) := fun j hj => racc_in _ _ (by omega) (by omega) (by rw [List.length_take]; omega)
  go_loop [7, 8] (fun pt i => ∃ j : Nat, j ≤ 2 ∧ i = .int .i64 (j + 1 : Nat) ∧ pt = .int .i64 (racc ((s[k].toNat : Int) - 224) (r.take j))) (fun _ i => 3 - (intOf i).toNat)
  case atStart => exact ⟨0, by omega, rfl, rfl⟩
  case round =>
    obtain ⟨j, hj, rfl, rfl⟩ := hrel
    obtain ⟨hbd1, hbd2⟩ := Hbd.out j hj
    by_cases hlt : j < 2
    · have hlt' : (j + 1 : Nat) < 3 := by omega
      have hix : k + (j + 1) < s.size := by omega
      have hrj : r[j]? = some s[k + (j + 1)] := Hr.out j hix
      have Hsn := Lib.hid (take_snoc r j _ hrj)
      have HW := Lib.hid (wr_in _ s[k + (j + 1)].toNat hbd1 hbd2 s[k + (j + 1)].toNat_lt)
      clear hrj
      obtain ⟨q, hq⟩ : ∃ q, racc ((s[k].toNat : Int) - 224) (r.take j) = q := ⟨_, rfl⟩
      rw [hq] at HW hbd1 hbd2 ⊢
      have Hq := Lib.hid hq
      clear hq
      go_wp2
      go_round
      case rel => exact ⟨j + 1, by omega, by go_num, by rw [HW.out, Hsn.out, racc_snoc, Hq.out]⟩
      case measure => simp [intOf]; omega
    · obtain rfl : j = 2 := by omega
      have hyes := Hyes.out
      have hno := Hno.out
      obtain ⟨q, hq⟩ : ∃ q, racc ((s[k].toNat : Int) - 224) (r.take 2) = q := ⟨_, rfl⟩
      rw [hq] at hbd1 hbd2 hyes hno ⊢
      have Hq := Lib.hid hq
      clear hq
      cases hp : isPt q
      · have Hfin : Hid (nxt (s[k] :: r) = (0, 0)) := hno (fun hh => by rw [hp] at hh; cases hh.1)
        clear hyes hno
        go_wp2_with fail
        refine (refEncode_any _ _).mono ?_
        rintro e w1 ⟨rfl, hb1⟩
        rw [hp]
        have hbk := (hb1.block w.heap.size (by simp)).trans (heap_alloc_new w _)
        obtain ⟨c0, c1, f0, f1⟩ := cells_of2 hbk
        have Hbk := Lib.hid hbk
        clear hbk
        go_wp2
        refine bodyPost_ret (results_cell_row rfl _ _ w.heap.size 99 _ (0, 0) _ rfl (two_set Hbk.out) Tryd.underlying99 rfl found_size) rfl ⟨ret_found (by rw [Hfin.out]; rfl) (by rw [Hfin.out]; rfl), below_two hb1 _ _⟩
      · have hsl : (s.extract k (k + 3)).toList = (s[k] :: r).take 3 := by
          rw [Lib.extract_toList, Hdr.out]
          congr 1
          omega
        by_cases hq : enc q = (s[k] :: r).take 3
        · have Hfin : Hid (nxt (s[k] :: r) = (q.toNat, 3)) := hyes hp hq
          have hq0 : 0 ≤ q := ((isPt_iff q).1 hp).1
          have ht : (enc q == (s.extract k (k + 3)).toList) = true := by
            rw [beq_iff_eq, hsl, ← hq]
          clear hyes hno hsl hq
          go_wp2_with fail
          refine (refEncode_any _ _).mono ?_
          rintro e w1 ⟨rfl, hb1⟩
          rw [hp]
          have hbk := (hb1.block w.heap.size (by simp)).trans (heap_alloc_new w _)
          obtain ⟨c0, c1, f0, f1⟩ := cells_of2 hbk
          have Hbk := Lib.hid hbk
          clear hbk
          go_wp2
          refine bodyPost_ret (results_cell_row rfl _ _ w.heap.size 99 _ (0, 0) _ rfl (two_set Hbk.out) Tryd.underlying99 rfl found_size) rfl ⟨ret_found (by rw [Hfin.out]; exact (Int.toNat_of_nonneg hq0).symm) (by rw [Hfin.out]; rfl), below_two hb1 _ _⟩
        · have Hfin : Hid (nxt (s[k] :: r) = (0, 0)) := hno (fun hh => hq hh.2)
          have ht : (enc q == (s.extract k (k + 3)).toList) = false := by
            rw [beq_eq_false_iff_ne, hsl]; exact hq
          clear hyes hno hsl hq
          go_wp2_with fail
          refine (refEncode_any _ _).mono ?_
          rintro e w1 ⟨rfl, hb1⟩
          rw [hp]
          have hbk := (hb1.block w.heap.size (by simp)).trans (heap_alloc_new w _)
          obtain ⟨c0, c1, f0, f1⟩ := cells_of2 hbk
          have Hbk := Lib.hid hbk
          clear hbk
          go_wp2
          refine bodyPost_ret (results_cell_row rfl _ _ w.heap.size 99 _ (0, 0) _ rfl (two_set Hbk.out) Tryd.underlying99 rfl found_size) rfl ⟨ret_found (by rw [Hfin.out]; rfl) (by rw [Hfin.out]; rfl), below_two hb1 _ _⟩

set_option maxRecDepth 100000 in
set_option maxRecDepth 100000 in
set_option maxHeartbeats 1000000 in
theorem refNext_four (s : ByteArray) (hs : s.size ≤ maxLen) (k : Nat) (hk : k < s.size) (g0 : 240 ≤ s[k].toNat) (h : 4 + k ≤ s.size) (r : List UInt8) (hr : s.data.toList.drop (k + 1) = r) (w : World) :
    Calls Tryd.prog 89 #[.string s, .int .i64 k] w fun e w' => e = .returned (found (nxt (s[k] :: r))) ∧ Below w.heap.size w w' := by
  unfold maxLen at hs
  have i9 : 0 ≤ (s[k].toNat : Int) := by omega
  have i8 : (s[k].toNat : Int) < 256 := by have := s[k].toNat_lt; omega
  have i0 : 240 ≤ (s[k].toNat : Int) := by omega
  clear g0
  have Hr : Hid (∀ j (h : k + (j + 1) < s.size), r[j]? = some s[k + (j + 1)]) := fun j hj => by
    have hl : k + 1 + j < s.data.toList.length := by rw [Array.length_toList]; show k + 1 + j < s.size; omega
    rw [← hr, List.getElem?_drop, List.getElem?_eq_getElem hl]
    congr 1
    rw [Array.getElem_toList]
    show s.data[k + 1 + j] = s.data[k + (j + 1)]
    congr 1
    omega
  have hrn : rn s[k].toNat = 4 ∧ ((rlow s[k].toNat : Nat) : Int) = (s[k].toNat : Int) - 240 := by
    unfold rn rlow
    constructor
    · ((repeat' split) <;> omega)
    · ((repeat' split) <;> omega)
  have hrl : 3 ≤ r.length := by
    rw [← hr, List.length_drop, Array.length_toList]
    show 3 ≤ s.size - (k + 1)
    omega
  have Hyes : Hid (isPt (racc ((s[k].toNat : Int) - 240) (r.take 3)) = true → enc (racc ((s[k].toNat : Int) - 240) (r.take 3)) = (s[k] :: r).take 4 → nxt (s[k] :: r) = ((racc ((s[k].toNat : Int) - 240) (r.take 3)).toNat, 4)) := by
    intro a b
    have := ref_yes (c := s[k]) (r := r) (q := racc ((s[k].toNat : Int) - 240) (r.take 3)) (by omega) a (by rw [hrn.1]; exact b)
    rw [hrn.1] at this
    exact this
  have Hno : Hid (¬ (isPt (racc ((s[k].toNat : Int) - 240) (r.take 3)) = true ∧ enc (racc ((s[k].toNat : Int) - 240) (r.take 3)) = (s[k] :: r).take 4) → nxt (s[k] :: r) = (0, 0)) := by
    intro a
    have := ref_no (c := s[k]) (r := r)
    rw [hrn.1, hrn.2] at this
    exact this a
  have Hdr : Hid (s.data.toList.drop k = s[k] :: r) := by
    rw [← hr]; exact drop_cons s k hk
  clear hrn hr
  go_enter Tryd.func89, Tryd.ntmps89
  go_wp2
  have Hbd : Hid (∀ j, j ≤ 3 → -100000000 ≤ racc ((s[k].toNat : Int) - 240) (r.take j) ∧ racc ((s[k].toNat : Int) - 240) (r.take j) ≤ 100000000) := fun j hj => racc_in _ _ (by omega) (by omega) (by rw [List.length_take]; omega)
  go_loop [7, 8] (fun pt i => ∃ j : Nat, j ≤ 3 ∧ i = .int .i64 (j + 1 : Nat) ∧ pt = .int .i64 (racc ((s[k].toNat : Int) - 240) (r.take j))) (fun _ i => 4 - (intOf i).toNat)
  case atStart => exact ⟨0, by omega, rfl, rfl⟩
  case round =>
    obtain ⟨j, hj, rfl, rfl⟩ := hrel
    obtain ⟨hbd1, hbd2⟩ := Hbd.out j hj
    by_cases hlt : j < 3
    · have hlt' : (j + 1 : Nat) < 4 := by omega
      have hix : k + (j + 1) < s.size := by omega
      have hrj : r[j]? = some s[k + (j + 1)] := Hr.out j hix
      have Hsn := Lib.hid (take_snoc r j _ hrj)
      have HW := Lib.hid (wr_in _ s[k + (j + 1)].toNat hbd1 hbd2 s[k + (j + 1)].toNat_lt)
      clear hrj
      obtain ⟨q, hq⟩ : ∃ q, racc ((s[k].toNat : Int) - 240) (r.take j) = q := ⟨_, rfl⟩
      rw [hq] at HW hbd1 hbd2 ⊢
      have Hq := Lib.hid hq
      clear hq
      go_wp2
      go_round
      case rel => exact ⟨j + 1, by omega, by go_num, by rw [HW.out, Hsn.out, racc_snoc, Hq.out]⟩
      case measure => simp [intOf]; omega
    · obtain rfl : j = 3 := by omega
      have hyes := Hyes.out
      have hno := Hno.out
      obtain ⟨q, hq⟩ : ∃ q, racc ((s[k].toNat : Int) - 240) (r.take 3) = q := ⟨_, rfl⟩
      rw [hq] at hbd1 hbd2 hyes hno ⊢
      have Hq := Lib.hid hq
      clear hq
      cases hp : isPt q
      · have Hfin : Hid (nxt (s[k] :: r) = (0, 0)) := hno (fun hh => by rw [hp] at hh; cases hh.1)
        clear hyes hno
        go_wp2_with fail
        refine (refEncode_any _ _).mono ?_
        rintro e w1 ⟨rfl, hb1⟩
        rw [hp]
        have hbk := (hb1.block w.heap.size (by simp)).trans (heap_alloc_new w _)
        obtain ⟨c0, c1, f0, f1⟩ := cells_of2 hbk
        have Hbk := Lib.hid hbk
        clear hbk
        go_wp2
        refine bodyPost_ret (results_cell_row rfl _ _ w.heap.size 99 _ (0, 0) _ rfl (two_set Hbk.out) Tryd.underlying99 rfl found_size) rfl ⟨ret_found (by rw [Hfin.out]; rfl) (by rw [Hfin.out]; rfl), below_two hb1 _ _⟩
      · have hsl : (s.extract k (k + 4)).toList = (s[k] :: r).take 4 := by
          rw [Lib.extract_toList, Hdr.out]
          congr 1
          omega
        by_cases hq : enc q = (s[k] :: r).take 4
        · have Hfin : Hid (nxt (s[k] :: r) = (q.toNat, 4)) := hyes hp hq
          have hq0 : 0 ≤ q := ((isPt_iff q).1 hp).1
          have ht : (enc q == (s.extract k (k + 4)).toList) = true := by
            rw [beq_iff_eq, hsl, ← hq]
          clear hyes hno hsl hq
          go_wp2_with fail
          refine (refEncode_any _ _).mono ?_
          rintro e w1 ⟨rfl, hb1⟩
          rw [hp]
          have hbk := (hb1.block w.heap.size (by simp)).trans (heap_alloc_new w _)
          obtain ⟨c0, c1, f0, f1⟩ := cells_of2 hbk
          have Hbk := Lib.hid hbk
          clear hbk
          go_wp2
          refine bodyPost_ret (results_cell_row rfl _ _ w.heap.size 99 _ (0, 0) _ rfl (two_set Hbk.out) Tryd.underlying99 rfl found_size) rfl ⟨ret_found (by rw [Hfin.out]; exact (Int.toNat_of_nonneg hq0).symm) (by rw [Hfin.out]; rfl), below_two hb1 _ _⟩
        · have Hfin : Hid (nxt (s[k] :: r) = (0, 0)) := hno (fun hh => hq hh.2)
          have ht : (enc q == (s.extract k (k + 4)).toList) = false := by
            rw [beq_eq_false_iff_ne, hsl]; exact hq
          clear hyes hno hsl hq
          go_wp2_with fail
          refine (refEncode_any _ _).mono ?_
          rintro e w1 ⟨rfl, hb1⟩
          rw [hp]
          have hbk := (hb1.block w.heap.size (by simp)).trans (heap_alloc_new w _)
          obtain ⟨c0, c1, f0, f1⟩ := cells_of2 hbk
          have Hbk := Lib.hid hbk
          clear hbk
          go_wp2
          refine bodyPost_ret (results_cell_row rfl _ _ w.heap.size 99 _ (0, 0) _ rfl (two_set Hbk.out) Tryd.underlying99 rfl found_size) rfl ⟨ret_found (by rw [Hfin.out]; rfl) (by rw [Hfin.out]; rfl), below_two hb1 _ _⟩

set_option maxRecDepth 100000 in
set_option maxRecDepth 100000 in
set_option maxHeartbeats 1000000 in
theorem refNext_out (s : ByteArray) (_hs : s.size ≤ maxLen) (at_ : Int) (h : at_ < 0 ∨ (s.size : Int) ≤ at_) (w : World) :
    Calls Tryd.prog 89 #[.string s, .int .i64 at_] w fun e w' => e = .returned (found (0, 0)) ∧ Below w.heap.size w w' := by
  unfold maxLen at _hs
  by_cases h0 : at_ < 0
  · go_enter Tryd.func89, Tryd.ntmps89
    go_wp2
    refine bodyPost_ret (results_cell_row rfl _ _ w.heap.size 99 _ (0, 0) _ rfl (heap_alloc_new w _) Tryd.underlying99 rfl found_size) rfl ⟨rfl, (Below.refl _ _).alloc (Nat.le_refl _) _⟩
  · have h1 : (s.size : Int) ≤ at_ := by omega
    have h0' : 0 ≤ at_ := by omega
    clear h h0
    go_enter Tryd.func89, Tryd.ntmps89
    go_wp2
    refine bodyPost_ret (results_cell_row rfl _ _ w.heap.size 99 _ (0, 0) _ rfl (heap_alloc_new w _) Tryd.underlying99 rfl found_size) rfl ⟨rfl, (Below.refl _ _).alloc (Nat.le_refl _) _⟩

set_option maxRecDepth 100000 in
set_option maxRecDepth 100000 in
set_option maxHeartbeats 1000000 in
theorem refNext_short2 (s : ByteArray) (_hs : s.size ≤ maxLen) (k : Nat) (hk : k < s.size) (g0 : 192 ≤ s[k].toNat) (g1 : s[k].toNat < 224) (h : s.size < 2 + k) (w : World) :
    Calls Tryd.prog 89 #[.string s, .int .i64 k] w fun e w' => e = .returned (found (0, 0)) ∧ Below w.heap.size w w' := by
  unfold maxLen at _hs
  have i9 : 0 ≤ (s[k].toNat : Int) := by omega
  have i8 : (s[k].toNat : Int) < 256 := by have := s[k].toNat_lt; omega
  have i0 : 192 ≤ (s[k].toNat : Int) := by omega
  have i1 : (s[k].toNat : Int) < 224 := by omega
  clear g0 g1
  go_enter Tryd.func89, Tryd.ntmps89
  go_wp2
  refine bodyPost_ret (results_cell_row rfl _ _ w.heap.size 99 _ (0, 0) _ rfl (heap_alloc_new w _) Tryd.underlying99 rfl found_size) rfl ⟨rfl, (Below.refl _ _).alloc (Nat.le_refl _) _⟩

set_option maxRecDepth 100000 in
set_option maxRecDepth 100000 in
set_option maxHeartbeats 1000000 in
theorem refNext_short3 (s : ByteArray) (_hs : s.size ≤ maxLen) (k : Nat) (hk : k < s.size) (g0 : 224 ≤ s[k].toNat) (g1 : s[k].toNat < 240) (h : s.size < 3 + k) (w : World) :
    Calls Tryd.prog 89 #[.string s, .int .i64 k] w fun e w' => e = .returned (found (0, 0)) ∧ Below w.heap.size w w' := by
  unfold maxLen at _hs
  have i9 : 0 ≤ (s[k].toNat : Int) := by omega
  have i8 : (s[k].toNat : Int) < 256 := by have := s[k].toNat_lt; omega
  have i0 : 224 ≤ (s[k].toNat : Int) := by omega
  have i1 : (s[k].toNat : Int) < 240 := by omega
  clear g0 g1
  go_enter Tryd.func89, Tryd.ntmps89
  go_wp2
  refine bodyPost_ret (results_cell_row rfl _ _ w.heap.size 99 _ (0, 0) _ rfl (heap_alloc_new w _) Tryd.underlying99 rfl found_size) rfl ⟨rfl, (Below.refl _ _).alloc (Nat.le_refl _) _⟩

set_option maxRecDepth 100000 in
set_option maxRecDepth 100000 in
set_option maxHeartbeats 1000000 in
theorem refNext_short4 (s : ByteArray) (_hs : s.size ≤ maxLen) (k : Nat) (hk : k < s.size) (g0 : 240 ≤ s[k].toNat) (h : s.size < 4 + k) (w : World) :
    Calls Tryd.prog 89 #[.string s, .int .i64 k] w fun e w' => e = .returned (found (0, 0)) ∧ Below w.heap.size w w' := by
  unfold maxLen at _hs
  have i9 : 0 ≤ (s[k].toNat : Int) := by omega
  have i8 : (s[k].toNat : Int) < 256 := by have := s[k].toNat_lt; omega
  have i0 : 240 ≤ (s[k].toNat : Int) := by omega
  clear g0
  go_enter Tryd.func89, Tryd.ntmps89
  go_wp2
  refine bodyPost_ret (results_cell_row rfl _ _ w.heap.size 99 _ (0, 0) _ rfl (heap_alloc_new w _) Tryd.underlying99 rfl found_size) rfl ⟨rfl, (Below.refl _ _).alloc (Nat.le_refl _) _⟩

/-- The document's Next: the same. -/
theorem refNext_any (s : ByteArray) (hs : s.size ≤ maxLen) (at_ : Int) (w : World) :
    Calls Tryd.prog 89 #[.string s, .int .i64 at_] w fun e w' => e = .returned (found (nxtAt s at_)) ∧ Below w.heap.size w w' := by
  by_cases h : at_ < 0 ∨ (s.size : Int) ≤ at_
  · have e : nxtAt s at_ = (0, 0) := by unfold nxtAt; rw [if_neg (by omega)]
    rw [e]
    exact refNext_out s hs at_ h w
  · obtain ⟨k, rfl⟩ := Int.eq_ofNat_of_zero_le (show 0 ≤ at_ by omega)
    have hk : k < s.size := by omega
    have e : nxtAt s k = nxt (s[k] :: s.data.toList.drop (k + 1)) := by
      unfold nxtAt; rw [if_pos (by omega), Int.toNat_natCast, drop_cons s k hk]
    have hlen : (s.data.toList.drop (k + 1)).length = s.size - (k + 1) := by rw [List.length_drop, Array.length_toList]; rfl
    rw [e]
    have hc := s[k].toNat_lt
    by_cases h1 : s[k].toNat < 192
    · exact refNext_one s hs k hk h1 (by omega) _ rfl w
    · by_cases h2 : s[k].toNat < 224
      · have hr : rn s[k].toNat = 2 := by unfold rn; rw [if_neg h1, if_pos h2]
        by_cases hl : s.size < 2 + k
        · rw [ref_short (by rw [hlen, hr]; omega)]
          exact refNext_short2 s hs k hk (by omega) h2 hl w
        · exact refNext_two s hs k hk (by omega) h2 (by omega) _ rfl w
      · by_cases h3 : s[k].toNat < 240
        · have hr : rn s[k].toNat = 3 := by unfold rn; rw [if_neg h1, if_neg h2, if_pos h3]
          by_cases hl : s.size < 3 + k
          · rw [ref_short (by rw [hlen, hr]; omega)]
            exact refNext_short3 s hs k hk (by omega) h3 hl w
          · exact refNext_three s hs k hk (by omega) h3 (by omega) _ rfl w
        · have hr : rn s[k].toNat = 4 := by unfold rn; rw [if_neg h1, if_neg h2, if_neg h3]
          by_cases hl : s.size < 4 + k
          · rw [ref_short (by rw [hlen, hr]; omega)]
            exact refNext_short4 s hs k hk (by omega) hl w
          · exact refNext_four s hs k hk (by omega) (by omega) _ rfl w
end Go.Proofs.YteocenjneoclbaaDoor.utf
