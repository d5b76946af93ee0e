/- Layer 1: the contract of Next: which point begins at a place, and how many bytes it has. Layer 1: the contracts of the document's own Encode and Next, and of the small functions of the laws. -/
import Derived.Lib.Strings
import Derived.Test.YteocenjneoclbaaDoorTrmUEnc
namespace Go.Proofs.YteocenjneoclbaaDoor.utf
open Go.RowKit

def nxtAt (s : ByteArray) (at_ : Int) : Nat × Nat := if 0 ≤ at_ ∧ at_ < s.size then nxt (s.data.toList.drop at_.toNat) else (0, 0)

set_option maxRecDepth 100000 in
set_option maxHeartbeats 400000 in
theorem Next_out (s : ByteArray) (_hs : s.size ≤ maxLen) (at_ : Int) (h : at_ < 0 ∨ (s.size : Int) ≤ at_) (w : World) :
    Calls Tryd.prog 92 #[.string s, .int .i64 at_] w fun e w' => e = .returned (.tuple #[.int .i64 0, .int .i64 0]) ∧ Below w.heap.size w w' := by
  unfold maxLen at _hs
  by_cases h0 : at_ < 0
  · go_enter Tryd.func92, Tryd.ntmps92
    go_wp2
    go_ret2
    exact ⟨rfl, Below.refl _ _⟩
  · have h1 : (s.size : Int) ≤ at_ := by omega
    have h0' : 0 ≤ at_ := by omega
    clear h h0
    go_enter Tryd.func92, Tryd.ntmps92
    go_wp2
    go_ret2
    exact ⟨rfl, Below.refl _ _⟩

set_option maxRecDepth 100000 in
set_option maxHeartbeats 400000 in
theorem Next_nolead (s : ByteArray) (_hs : s.size ≤ maxLen) (k : Nat) (hk : k < s.size) (hl : lsz s[k].toNat = 0) (w : World) (hT : Tab w) :
    Calls Tryd.prog 92 #[.string s, .int .i64 k] w fun e w' => e = .returned (.tuple #[.int .i64 0, .int .i64 0]) ∧ Below w.heap.size w w' := by
  unfold maxLen at _hs
  have Hl := Lib.hid hl
  clear hl
  go_enter Tryd.func92, Tryd.ntmps92
  go_wp2_with fail
  refine (leadSize_any _ (UInt8.toNat_lt _) _ hT).mono ?_
  rintro e w1 ⟨rfl, hb1⟩
  rw [Hl.out]
  go_wp2
  go_ret2
  exact ⟨rfl, hb1⟩

set_option maxRecDepth 100000 in
set_option maxHeartbeats 400000 in
theorem Next_short (s : ByteArray) (_hs : s.size ≤ maxLen) (k n : Nat) (hk : k < s.size) (hl : lsz s[k].toNat = n) (hn : 1 ≤ n) (hn4 : n ≤ 4) (h : s.size < n + k) (w : World) (hT : Tab w) :
    Calls Tryd.prog 92 #[.string s, .int .i64 k] w fun e w' => e = .returned (.tuple #[.int .i64 0, .int .i64 0]) ∧ Below w.heap.size w w' := by
  unfold maxLen at _hs
  have Hl := Lib.hid hl
  clear hl
  go_enter Tryd.func92, Tryd.ntmps92
  go_wp2_with fail
  refine (leadSize_any _ (UInt8.toNat_lt _) _ hT).mono ?_
  rintro e w1 ⟨rfl, hb1⟩
  rw [Hl.out]
  have hz : ((n : Int) == 0) = false := beq_eq_false_iff_ne.2 (by omega)
  go_wp2
  go_ret2
  exact ⟨rfl, hb1⟩

theorem ret_two {k : IntKind} {a b c d : Int} (h1 : a = c) (h2 : b = d) : Ending.returned (.tuple #[.int k a, .int k b]) = .returned (.tuple #[.int k c, .int k d]) := by rw [h1, h2]
theorem i64_or_join (x y : Nat) (hx : x % 64 = 0) (hy : y < 64) (hb : x < 2147483648) : bits .or .i64 (x : Int) (y : Int) = ((x + y : Nat) : Int) := by
  have o : ∀ a : Nat, a < 9223372036854775808 → (BitVec.ofInt 64 (a : Int)).toNat = a := fun a ha => by
    rw [BitVec.ofInt_natCast, BitVec.toNat_ofNat]; exact Nat.mod_eq_of_lt (by omega)
  show IntKind.i64.wrap ((BitVec.ofInt 64 (x : Int) ||| BitVec.ofInt 64 (y : Int)).toNat : Int) = _
  rw [BitVec.toNat_or, o x (by omega), o y (by omega), nat_join 6 x y hx hy, IntKind.wrap_i64]
  omega
/-- A text turned into bytes: new memory that holds them. -/
theorem conv_bytes (W : World) (x : ByteArray) : ∃ cap W', (convert 9 57 (.string x)).run Tryd.prog W = .ok (.slice (some ⟨W.heap.size, 0, none⟩) x.size cap) W' ∧ Below W.heap.size W W' ∧
    ∀ j b, x.data.toList[j]? = some b → W'.cell? ⟨W.heap.size, j, none⟩ = some (.int .u8 (b.toNat : Int)) := by
  refine ⟨_, _, run_bytes_of_string W 9 57 5 x Tryd.underlying9 Tryd.underlying57 Tryd.underlying5, ((Below.refl _ W).drew).alloc (Nat.le_refl _) _, ?_⟩
  intro j b hb
  have hj : j < x.data.size := by
    rcases Nat.lt_or_ge j x.data.size with h | h
    · exact h
    · rw [List.getElem?_eq_none (by simpa using h)] at hb; cases hb
  have hb' : x.data[j] = b := by
    rw [List.getElem?_eq_getElem (by simpa using hj)] at hb
    simpa using hb
  have e := cell_of_row _ W.heap.size j _ 5 _ (heap_alloc_new W.drew (.cells (bytesRow x (grownCap W x.size 0 5)) 5 ((bytesRow x (grownCap W x.size 0 5)).size, (bytesRow x (grownCap W x.size 0 5)).size + 1)))
  rw [e, bytesRow_at x _ j hj, hb']
theorem nxt_of {c : UInt8} {r : List UInt8} {n : Nat} (h : lsz c.toNat = n) (h1 : 1 ≤ n) (h2 : n - 1 ≤ r.length) :
    nxt (c :: r) = if (r.take (n - 1)).all cont = true then (if psz (acc (low c.toNat) (r.take (n - 1))) = n then (acc (low c.toNat) (r.take (n - 1)), n) else (0, 0)) else (0, 0) := by
  unfold nxt
  simp only [h]
  rw [if_neg (by omega)]
theorem acc_snoc (l : List UInt8) : ∀ (p : Nat) (b : UInt8), acc p (l ++ [b]) = acc p l * 64 + b.toNat % 64 := by
  induction l with
  | nil => intro p b; rfl
  | cons x l ih => intro p b; exact ih _ b
theorem acc_lt (l : List UInt8) : ∀ p : Nat, p < 128 → l.length ≤ 3 → acc p l < 33554432 := by
  have : ∀ (l : List UInt8) (p : Nat), acc p l < (p + 1) * 64 ^ l.length := by
    intro l
    induction l with
    | nil => intro p; simp [acc]
    | cons x l ih =>
      intro p
      refine Nat.lt_of_lt_of_le (ih _) ?_
      rw [List.length_cons, Nat.pow_succ, Nat.mul_comm (64 ^ l.length) 64, ← Nat.mul_assoc]
      exact Nat.mul_le_mul_right _ (by omega)
  intro p hp hl
  refine Nat.lt_of_lt_of_le (this l p) ?_
  have h1 : 64 ^ l.length ≤ 64 ^ 3 := Nat.pow_le_pow_right (by omega) hl
  have h2 : (p + 1) * 64 ^ l.length ≤ 128 * 64 ^ 3 := Nat.mul_le_mul (by omega) h1
  omega
theorem low_lt (c : Nat) (h : lsz c ≠ 0) : low c < 128 := by
  unfold lsz at h
  unfold low
  ((repeat' split at h) <;> (repeat' split)) <;> omega
theorem take_snoc {α : Type} (l : List α) (j : Nat) (b : α) (h : l[j]? = some b) : l.take (j + 1) = l.take j ++ [b] := by
  rw [List.take_add_one, h]; rfl
theorem bdrewN {B : Nat} {a w : World} (h : Below B a w) (n : Nat) : Below B a (w.drewN n) := ⟨h.os, h.tape, h.output, h.size, h.block⟩
theorem val_or (a b : Nat) (h : a < 33554432) : Value.int .i64 (bits .or .i64 ((a : Int) * 64) ((b : Int) % 64)) = Value.int .i64 ((a * 64 + b % 64 : Nat) : Int) := by
  have e := i64_or_join (a * 64) (b % 64) (by omega) (by omega) (by omega)
  rw [← e]
  congr 1
theorem all_snoc (l : List UInt8) (b : UInt8) : (l ++ [b]).all cont = (l.all cont && cont b) := by simp
theorem b_cont (c : Nat) (hc : c < 256) : (bits .and .u8 (c : Int) 192 != 128) = !(decide (128 ≤ c ∧ c < 192)) := by
  have e := byte_and 192 128 (by omega) c hc (fun c => decide (128 ≤ c ∧ c < 192)) (by decide +kernel)
  rw [← e]; rfl
theorem b_low (c : Nat) (hc : c < 256) : bits .andNot .u8 (c : Int) 192 = ((c % 64 : Nat) : Int) := by
  have e := u8_andNot_nat c 192 hc (by omega)
  rw [show 255 - 192 = 63 from rfl, nat_mask6] at e
  exact e
theorem all_false (l : List UInt8) (m j : Nat) (b : UInt8) (h : l[j]? = some b) (hb : cont b = false) (hj : j < m) : ¬ (l.take m).all cont = true := by
  intro hall
  rw [List.all_eq_true] at hall
  have := hall b (by
    rw [List.mem_take_iff_getElem]
    obtain ⟨hl, e⟩ := List.getElem?_eq_some_iff.1 h
    exact ⟨j, by omega, e⟩)
  rw [hb] at this; cases this
theorem mask_low (n m : Nat) (hm : m < 256) (c : Nat) (hc : c < 256) (h : lsz c = n) (hd : ∀ x : Fin 256, lsz x.val = n → (x.val &&& (255 - m)) = low x.val) : bits .andNot .u8 (c : Int) (m : Int) = ((low c : Nat) : Int) := by
  rw [u8_andNot_nat c m hc hm, hd ⟨c, hc⟩ h]

set_option maxRecDepth 100000 in
set_option maxHeartbeats 1000000 in
theorem Next_one (s : ByteArray) (hs : s.size ≤ maxLen) (k : Nat) (hk : k < s.size) (hl : lsz s[k].toNat = 1) (_h : 1 + k ≤ s.size) (r : List UInt8) (hr : s.data.toList.drop (k + 1) = r) (w : World) (hT : Tab w) :
    Calls Tryd.prog 92 #[.string s, .int .i64 k] w fun e w' => e = .returned (.tuple #[.int .i64 (nxt (s[k] :: r)).1, .int .i64 (nxt (s[k] :: r)).2]) ∧ Below w.heap.size w w' := by
  unfold maxLen at hs
  have hrl : 0 ≤ r.length := by
    rw [← hr, List.length_drop, Array.length_toList]
    show 0 ≤ s.size - (k + 1)
    omega
  have hN : nxt (s[k] :: r) = if (r.take 0).all cont = true then (if psz (acc (low s[k].toNat) (r.take 0)) = 1 then (acc (low s[k].toNat) (r.take 0), 1) else (0, 0)) else (0, 0) := nxt_of hl (by omega) hrl
  have Hlow := Lib.hid (low_lt s[k].toNat (by omega))
  have hmk : bits .andNot .u8 (s[k].toNat : Int) 128 = ((low s[k].toNat : Nat) : Int) := mask_low 1 128 (by omega) s[k].toNat s[k].toNat_lt hl (by decide +kernel)
  generalize hC : s[k] = cc at *
  generalize hQ : low cc.toNat = q at *
  have hxl : ByteArray.empty.data.toList = r.take 0 := by
    rfl
  have hxs : ByteArray.empty.size = 0 := by
    rfl
  have Hl := Lib.hid hl
  have Hxl := Lib.hid hxl
  have Hxs := Lib.hid hxs
  have HN := Lib.hid hN
  have HC := Lib.hid hC
  clear hl hxl hxs hN hC hQ hr
  go_enter Tryd.func92, Tryd.ntmps92
  go_wp2_with fail
  rw [HC.out]
  refine (leadSize_any _ (UInt8.toNat_lt _) _ hT).mono ?_
  rintro e w1 ⟨rfl, hb1⟩
  rw [Hl.out]
  have hT1 := hT.self hb1
  have cm := hT1.cell 0
  simp only [show leadCells[0]? = some (.int .u8 128) from rfl] at cm
  have hc2 := HC.out
  go_wp2
  go_quiet (fail)
  obtain ⟨cap, w2, hcv, hb2, hcells⟩ := conv_bytes (w1.drewN nq) ByteArray.empty
  rw [Hxs.out] at hcv
  rw [Hxl.out] at hcells
  have Hcells := Lib.hid hcells
  have HB : Hid (Below w.heap.size w w2) := (bdrewN hb1 nq).trans (hb2.mono hb1.size)
  clear hcells
  have hqb : q < 128 := Hlow.out
  go_wp2
  go_loop [4, 5, 49] (fun pt nn i => ∃ j : Nat, nn = .int .i64 1 ∧ j ≤ 0 ∧ i = .int .i64 j ∧ pt = .int .i64 (acc q (r.take j)) ∧ (r.take j).all cont = true) (fun _ _ i => 1 - (intOf i).toNat)
  case atStart => exact ⟨0, rfl, by omega, rfl, by rw [IntWalk.wrap64_in _ (by omega)]; rfl, rfl⟩
  case round =>
    obtain ⟨j, rfl, hj, rfl, rfl, hall⟩ := hrel
    by_cases hlt : j < 0
    · omega
    · obtain rfl : j = 0 := by omega
      have hT2 : Tab w2 := (hT1.drewN nq).self hb2
      have HN2 : Hid (nxt (cc :: r) = (if psz (acc q []) = 1 then (acc q [], 1) else (0, 0))) := by
        exact HN.out.trans (if_pos hall)
      by_cases hq : psz (acc q []) = 1
      · have Hq := Lib.hid hq
        clear hq
        have Hfin : Hid (nxt (cc :: r) = (acc q [], 1)) := by
          show _ = _
          rw [HN2.out, if_pos Hq.out]
        have ht : ((1 : Int) != 1) = false := rfl
        go_wp2_with fail
        refine (pointSize_any _ _ hT2).mono ?_
        rintro e w3 ⟨rfl, hb3⟩
        rw [Hq.out]
        go_wp2
        go_ret2
        exact ⟨ret_two (by rw [Hfin.out]) (by rw [Hfin.out]; rfl), HB.out.trans (hb3.mono HB.out.size)⟩
      · have ht : (((psz (acc q []) : Nat) : Int) != 1) = true := by
          rw [bne_iff_ne]; omega
        have Hfin : Hid (nxt (cc :: r) = (0, 0)) := by
          show _ = _
          rw [HN2.out, if_neg hq]
        clear hq
        go_wp2_with fail
        refine (pointSize_any _ _ hT2).mono ?_
        rintro e w3 ⟨rfl, hb3⟩
        go_wp2
        go_ret2
        exact ⟨ret_two (by rw [Hfin.out]; rfl) (by rw [Hfin.out]; rfl), HB.out.trans (hb3.mono HB.out.size)⟩

set_option maxRecDepth 100000 in
set_option maxHeartbeats 1000000 in
theorem Next_two (s : ByteArray) (hs : s.size ≤ maxLen) (k : Nat) (hk : k < s.size) (hl : lsz s[k].toNat = 2) (h : 2 + k ≤ s.size) (r : List UInt8) (hr : s.data.toList.drop (k + 1) = r) (w : World) (hT : Tab w) :
    Calls Tryd.prog 92 #[.string s, .int .i64 k] w fun e w' => e = .returned (.tuple #[.int .i64 (nxt (s[k] :: r)).1, .int .i64 (nxt (s[k] :: r)).2]) ∧ Below w.heap.size w w' := by
  unfold maxLen at hs
  have hrl : 1 ≤ r.length := by
    rw [← hr, List.length_drop, Array.length_toList]
    show 1 ≤ s.size - (k + 1)
    omega
  have hN : nxt (s[k] :: r) = if (r.take 1).all cont = true then (if psz (acc (low s[k].toNat) (r.take 1)) = 2 then (acc (low s[k].toNat) (r.take 1), 2) else (0, 0)) else (0, 0) := nxt_of hl (by omega) hrl
  have Hlow := Lib.hid (low_lt s[k].toNat (by omega))
  have hmk : bits .andNot .u8 (s[k].toNat : Int) 224 = ((low s[k].toNat : Nat) : Int) := mask_low 2 224 (by omega) s[k].toNat s[k].toNat_lt hl (by decide +kernel)
  generalize hC : s[k] = cc at *
  generalize hQ : low cc.toNat = q at *
  have hxl : (s.extract (k + 1) (k + 2)).data.toList = r.take 1 := by
    rw [Lib.extract_data, hr]
    congr 1
    omega
  have hxs : (s.extract (k + 1) (k + 2)).size = 1 := by
    show (s.extract (k + 1) (k + 2)).data.size = _
    rw [← Array.length_toList, hxl, List.length_take]
    omega
  have Hl := Lib.hid hl
  have Hxl := Lib.hid hxl
  have Hxs := Lib.hid hxs
  have HN := Lib.hid hN
  have HC := Lib.hid hC
  clear hl hxl hxs hN hC hQ hr
  go_enter Tryd.func92, Tryd.ntmps92
  go_wp2_with fail
  rw [HC.out]
  refine (leadSize_any _ (UInt8.toNat_lt _) _ hT).mono ?_
  rintro e w1 ⟨rfl, hb1⟩
  rw [Hl.out]
  have hT1 := hT.self hb1
  have cm := hT1.cell 3
  simp only [show leadCells[3]? = some (.int .u8 224) from rfl] at cm
  have hc2 := HC.out
  go_wp2
  go_quiet (fail)
  obtain ⟨cap, w2, hcv, hb2, hcells⟩ := conv_bytes (w1.drewN nq) (s.extract (k + 1) (k + 2))
  rw [Hxs.out] at hcv
  rw [Hxl.out] at hcells
  have Hcells := Lib.hid hcells
  have HB : Hid (Below w.heap.size w w2) := (bdrewN hb1 nq).trans (hb2.mono hb1.size)
  clear hcells
  have hqb : q < 128 := Hlow.out
  go_wp2
  go_loop [4, 5, 49] (fun pt nn i => ∃ j : Nat, nn = .int .i64 2 ∧ j ≤ 1 ∧ i = .int .i64 j ∧ pt = .int .i64 (acc q (r.take j)) ∧ (r.take j).all cont = true) (fun _ _ i => 2 - (intOf i).toNat)
  case atStart => exact ⟨0, rfl, by omega, rfl, by rw [IntWalk.wrap64_in _ (by omega)]; rfl, rfl⟩
  case round =>
    obtain ⟨j, rfl, hj, rfl, rfl, hall⟩ := hrel
    by_cases hlt : j < 1
    · have hjr : j < r.length := by omega
      obtain ⟨b, hb⟩ : ∃ b, r[j]? = some b := ⟨_, List.getElem?_eq_getElem hjr⟩
      have hbl : b.toNat < 256 := b.toNat_lt
      have hcell : w2.cell? ⟨w1.heap.size, j, none⟩ = some (.int .u8 (b.toNat : Int)) := Hcells.out j b (by rw [List.getElem?_take, if_pos hlt]; exact hb)
      have Hsn := Lib.hid (take_snoc r j b hb)
      have Hall := Lib.hid hall
      have hlb := b_low b.toNat hbl
      have hal : acc q (r.take j) < 33554432 := acc_lt _ q hqb (by rw [List.length_take]; omega)
      by_cases hcb : cont b = true
      · have ht : (bits .and .u8 (b.toNat : Int) 192 != 128) = false := by
          rw [b_cont _ hbl, decide_eq_true ((cont_iff b).1 hcb)]; rfl
        go_wp2
        go_round
        case rel => exact ⟨j + 1, rfl, by omega, by go_num, by rw [Hsn.out, acc_snoc]; exact val_or _ _ hal, by rw [Hsn.out, all_snoc, Hall.out, hcb]; rfl⟩
        case measure => simp [intOf]; omega
      · have hcf : cont b = false := by simpa using hcb
        have ht : (bits .and .u8 (b.toNat : Int) 192 != 128) = true := by
          rw [b_cont _ hbl, decide_eq_false (fun hh => hcb ((cont_iff b).2 hh))]; rfl
        have hfin : nxt (cc :: r) = (0, 0) := by rw [HN.out, if_neg (all_false r 1 j b hb hcf hlt)]
        have Hfin := Lib.hid hfin
        clear hfin hcb hcf
        go_wp2
        go_ret2
        exact ⟨ret_two (by rw [Hfin.out]; rfl) (by rw [Hfin.out]; rfl), HB.out⟩
    · obtain rfl : j = 1 := by omega
      have hT2 : Tab w2 := (hT1.drewN nq).self hb2
      have HN2 : Hid (nxt (cc :: r) = (if psz (acc q (r.take 1)) = 2 then (acc q (r.take 1), 2) else (0, 0))) := by
        exact HN.out.trans (if_pos hall)
      by_cases hq : psz (acc q (r.take 1)) = 2
      · have Hq := Lib.hid hq
        clear hq
        have Hfin : Hid (nxt (cc :: r) = (acc q (r.take 1), 2)) := by
          show _ = _
          rw [HN2.out, if_pos Hq.out]
        have ht : ((2 : Int) != 2) = false := rfl
        go_wp2_with fail
        refine (pointSize_any _ _ hT2).mono ?_
        rintro e w3 ⟨rfl, hb3⟩
        rw [Hq.out]
        go_wp2
        go_ret2
        exact ⟨ret_two (by rw [Hfin.out]) (by rw [Hfin.out]; rfl), HB.out.trans (hb3.mono HB.out.size)⟩
      · have ht : (((psz (acc q (r.take 1)) : Nat) : Int) != 2) = true := by
          rw [bne_iff_ne]; omega
        have Hfin : Hid (nxt (cc :: r) = (0, 0)) := by
          show _ = _
          rw [HN2.out, if_neg hq]
        clear hq
        go_wp2_with fail
        refine (pointSize_any _ _ hT2).mono ?_
        rintro e w3 ⟨rfl, hb3⟩
        go_wp2
        go_ret2
        exact ⟨ret_two (by rw [Hfin.out]; rfl) (by rw [Hfin.out]; rfl), HB.out.trans (hb3.mono HB.out.size)⟩

set_option maxRecDepth 100000 in
set_option maxHeartbeats 1000000 in
theorem Next_three (s : ByteArray) (hs : s.size ≤ maxLen) (k : Nat) (hk : k < s.size) (hl : lsz s[k].toNat = 3) (h : 3 + k ≤ s.size) (r : List UInt8) (hr : s.data.toList.drop (k + 1) = r) (w : World) (hT : Tab w) :
    Calls Tryd.prog 92 #[.string s, .int .i64 k] w fun e w' => e = .returned (.tuple #[.int .i64 (nxt (s[k] :: r)).1, .int .i64 (nxt (s[k] :: r)).2]) ∧ Below w.heap.size w w' := by
  unfold maxLen at hs
  have hrl : 2 ≤ r.length := by
    rw [← hr, List.length_drop, Array.length_toList]
    show 2 ≤ s.size - (k + 1)
    omega
  have hN : nxt (s[k] :: r) = if (r.take 2).all cont = true then (if psz (acc (low s[k].toNat) (r.take 2)) = 3 then (acc (low s[k].toNat) (r.take 2), 3) else (0, 0)) else (0, 0) := nxt_of hl (by omega) hrl
  have Hlow := Lib.hid (low_lt s[k].toNat (by omega))
  have hmk : bits .andNot .u8 (s[k].toNat : Int) 240 = ((low s[k].toNat : Nat) : Int) := mask_low 3 240 (by omega) s[k].toNat s[k].toNat_lt hl (by decide +kernel)
  generalize hC : s[k] = cc at *
  generalize hQ : low cc.toNat = q at *
  have hxl : (s.extract (k + 1) (k + 3)).data.toList = r.take 2 := by
    rw [Lib.extract_data, hr]
    congr 1
    omega
  have hxs : (s.extract (k + 1) (k + 3)).size = 2 := by
    show (s.extract (k + 1) (k + 3)).data.size = _
    rw [← Array.length_toList, hxl, List.length_take]
    omega
  have Hl := Lib.hid hl
  have Hxl := Lib.hid hxl
  have Hxs := Lib.hid hxs
  have HN := Lib.hid hN
  have HC := Lib.hid hC
  clear hl hxl hxs hN hC hQ hr
  go_enter Tryd.func92, Tryd.ntmps92
  go_wp2_with fail
  rw [HC.out]
  refine (leadSize_any _ (UInt8.toNat_lt _) _ hT).mono ?_
  rintro e w1 ⟨rfl, hb1⟩
  rw [Hl.out]
  have hT1 := hT.self hb1
  have cm := hT1.cell 6
  simp only [show leadCells[6]? = some (.int .u8 240) from rfl] at cm
  have hc2 := HC.out
  go_wp2
  go_quiet (fail)
  obtain ⟨cap, w2, hcv, hb2, hcells⟩ := conv_bytes (w1.drewN nq) (s.extract (k + 1) (k + 3))
  rw [Hxs.out] at hcv
  rw [Hxl.out] at hcells
  have Hcells := Lib.hid hcells
  have HB : Hid (Below w.heap.size w w2) := (bdrewN hb1 nq).trans (hb2.mono hb1.size)
  clear hcells
  have hqb : q < 128 := Hlow.out
  go_wp2
  go_loop [4, 5, 49] (fun pt nn i => ∃ j : Nat, nn = .int .i64 3 ∧ j ≤ 2 ∧ i = .int .i64 j ∧ pt = .int .i64 (acc q (r.take j)) ∧ (r.take j).all cont = true) (fun _ _ i => 3 - (intOf i).toNat)
  case atStart => exact ⟨0, rfl, by omega, rfl, by rw [IntWalk.wrap64_in _ (by omega)]; rfl, rfl⟩
  case round =>
    obtain ⟨j, rfl, hj, rfl, rfl, hall⟩ := hrel
    by_cases hlt : j < 2
    · have hjr : j < r.length := by omega
      obtain ⟨b, hb⟩ : ∃ b, r[j]? = some b := ⟨_, List.getElem?_eq_getElem hjr⟩
      have hbl : b.toNat < 256 := b.toNat_lt
      have hcell : w2.cell? ⟨w1.heap.size, j, none⟩ = some (.int .u8 (b.toNat : Int)) := Hcells.out j b (by rw [List.getElem?_take, if_pos hlt]; exact hb)
      have Hsn := Lib.hid (take_snoc r j b hb)
      have Hall := Lib.hid hall
      have hlb := b_low b.toNat hbl
      have hal : acc q (r.take j) < 33554432 := acc_lt _ q hqb (by rw [List.length_take]; omega)
      by_cases hcb : cont b = true
      · have ht : (bits .and .u8 (b.toNat : Int) 192 != 128) = false := by
          rw [b_cont _ hbl, decide_eq_true ((cont_iff b).1 hcb)]; rfl
        go_wp2
        go_round
        case rel => exact ⟨j + 1, rfl, by omega, by go_num, by rw [Hsn.out, acc_snoc]; exact val_or _ _ hal, by rw [Hsn.out, all_snoc, Hall.out, hcb]; rfl⟩
        case measure => simp [intOf]; omega
      · have hcf : cont b = false := by simpa using hcb
        have ht : (bits .and .u8 (b.toNat : Int) 192 != 128) = true := by
          rw [b_cont _ hbl, decide_eq_false (fun hh => hcb ((cont_iff b).2 hh))]; rfl
        have hfin : nxt (cc :: r) = (0, 0) := by rw [HN.out, if_neg (all_false r 2 j b hb hcf hlt)]
        have Hfin := Lib.hid hfin
        clear hfin hcb hcf
        go_wp2
        go_ret2
        exact ⟨ret_two (by rw [Hfin.out]; rfl) (by rw [Hfin.out]; rfl), HB.out⟩
    · obtain rfl : j = 2 := by omega
      have hT2 : Tab w2 := (hT1.drewN nq).self hb2
      have HN2 : Hid (nxt (cc :: r) = (if psz (acc q (r.take 2)) = 3 then (acc q (r.take 2), 3) else (0, 0))) := by
        exact HN.out.trans (if_pos hall)
      by_cases hq : psz (acc q (r.take 2)) = 3
      · have Hq := Lib.hid hq
        clear hq
        have Hfin : Hid (nxt (cc :: r) = (acc q (r.take 2), 3)) := by
          show _ = _
          rw [HN2.out, if_pos Hq.out]
        have ht : ((3 : Int) != 3) = false := rfl
        go_wp2_with fail
        refine (pointSize_any _ _ hT2).mono ?_
        rintro e w3 ⟨rfl, hb3⟩
        rw [Hq.out]
        go_wp2
        go_ret2
        exact ⟨ret_two (by rw [Hfin.out]) (by rw [Hfin.out]; rfl), HB.out.trans (hb3.mono HB.out.size)⟩
      · have ht : (((psz (acc q (r.take 2)) : Nat) : Int) != 3) = true := by
          rw [bne_iff_ne]; omega
        have Hfin : Hid (nxt (cc :: r) = (0, 0)) := by
          show _ = _
          rw [HN2.out, if_neg hq]
        clear hq
        go_wp2_with fail
        refine (pointSize_any _ _ hT2).mono ?_
        rintro e w3 ⟨rfl, hb3⟩
        go_wp2
        go_ret2
        exact ⟨ret_two (by rw [Hfin.out]; rfl) (by rw [Hfin.out]; rfl), HB.out.trans (hb3.mono HB.out.size)⟩

set_option maxRecDepth 100000 in
set_option maxHeartbeats 1000000 in
theorem Next_four (s : ByteArray) (hs : s.size ≤ maxLen) (k : Nat) (hk : k < s.size) (hl : lsz s[k].toNat = 4) (h : 4 + k ≤ s.size) (r : List UInt8) (hr : s.data.toList.drop (k + 1) = r) (w : World) (hT : Tab w) :
    Calls Tryd.prog 92 #[.string s, .int .i64 k] w fun e w' => e = .returned (.tuple #[.int .i64 (nxt (s[k] :: r)).1, .int .i64 (nxt (s[k] :: r)).2]) ∧ Below w.heap.size w w' := by
  unfold maxLen at hs
  have hrl : 3 ≤ r.length := by
    rw [← hr, List.length_drop, Array.length_toList]
    show 3 ≤ s.size - (k + 1)
    omega
  have hN : nxt (s[k] :: r) = if (r.take 3).all cont = true then (if psz (acc (low s[k].toNat) (r.take 3)) = 4 then (acc (low s[k].toNat) (r.take 3), 4) else (0, 0)) else (0, 0) := nxt_of hl (by omega) hrl
  have Hlow := Lib.hid (low_lt s[k].toNat (by omega))
  have hmk : bits .andNot .u8 (s[k].toNat : Int) 248 = ((low s[k].toNat : Nat) : Int) := mask_low 4 248 (by omega) s[k].toNat s[k].toNat_lt hl (by decide +kernel)
  generalize hC : s[k] = cc at *
  generalize hQ : low cc.toNat = q at *
  have hxl : (s.extract (k + 1) (k + 4)).data.toList = r.take 3 := by
    rw [Lib.extract_data, hr]
    congr 1
    omega
  have hxs : (s.extract (k + 1) (k + 4)).size = 3 := by
    show (s.extract (k + 1) (k + 4)).data.size = _
    rw [← Array.length_toList, hxl, List.length_take]
    omega
  have Hl := Lib.hid hl
  have Hxl := Lib.hid hxl
  have Hxs := Lib.hid hxs
  have HN := Lib.hid hN
  have HC := Lib.hid hC
  clear hl hxl hxs hN hC hQ hr
  go_enter Tryd.func92, Tryd.ntmps92
  go_wp2_with fail
  rw [HC.out]
  refine (leadSize_any _ (UInt8.toNat_lt _) _ hT).mono ?_
  rintro e w1 ⟨rfl, hb1⟩
  rw [Hl.out]
  have hT1 := hT.self hb1
  have cm := hT1.cell 9
  simp only [show leadCells[9]? = some (.int .u8 248) from rfl] at cm
  have hc2 := HC.out
  go_wp2
  go_quiet (fail)
  obtain ⟨cap, w2, hcv, hb2, hcells⟩ := conv_bytes (w1.drewN nq) (s.extract (k + 1) (k + 4))
  rw [Hxs.out] at hcv
  rw [Hxl.out] at hcells
  have Hcells := Lib.hid hcells
  have HB : Hid (Below w.heap.size w w2) := (bdrewN hb1 nq).trans (hb2.mono hb1.size)
  clear hcells
  have hqb : q < 128 := Hlow.out
  go_wp2
  go_loop [4, 5, 49] (fun pt nn i => ∃ j : Nat, nn = .int .i64 4 ∧ j ≤ 3 ∧ i = .int .i64 j ∧ pt = .int .i64 (acc q (r.take j)) ∧ (r.take j).all cont = true) (fun _ _ i => 4 - (intOf i).toNat)
  case atStart => exact ⟨0, rfl, by omega, rfl, by rw [IntWalk.wrap64_in _ (by omega)]; rfl, rfl⟩
  case round =>
    obtain ⟨j, rfl, hj, rfl, rfl, hall⟩ := hrel
    by_cases hlt : j < 3
    · have hjr : j < r.length := by omega
      obtain ⟨b, hb⟩ : ∃ b, r[j]? = some b := ⟨_, List.getElem?_eq_getElem hjr⟩
      have hbl : b.toNat < 256 := b.toNat_lt
      have hcell : w2.cell? ⟨w1.heap.size, j, none⟩ = some (.int .u8 (b.toNat : Int)) := Hcells.out j b (by rw [List.getElem?_take, if_pos hlt]; exact hb)
      have Hsn := Lib.hid (take_snoc r j b hb)
      have Hall := Lib.hid hall
      have hlb := b_low b.toNat hbl
      have hal : acc q (r.take j) < 33554432 := acc_lt _ q hqb (by rw [List.length_take]; omega)
      by_cases hcb : cont b = true
      · have ht : (bits .and .u8 (b.toNat : Int) 192 != 128) = false := by
          rw [b_cont _ hbl, decide_eq_true ((cont_iff b).1 hcb)]; rfl
        go_wp2
        go_round
        case rel => exact ⟨j + 1, rfl, by omega, by go_num, by rw [Hsn.out, acc_snoc]; exact val_or _ _ hal, by rw [Hsn.out, all_snoc, Hall.out, hcb]; rfl⟩
        case measure => simp [intOf]; omega
      · have hcf : cont b = false := by simpa using hcb
        have ht : (bits .and .u8 (b.toNat : Int) 192 != 128) = true := by
          rw [b_cont _ hbl, decide_eq_false (fun hh => hcb ((cont_iff b).2 hh))]; rfl
        have hfin : nxt (cc :: r) = (0, 0) := by rw [HN.out, if_neg (all_false r 3 j b hb hcf hlt)]
        have Hfin := Lib.hid hfin
        clear hfin hcb hcf
        go_wp2
        go_ret2
        exact ⟨ret_two (by rw [Hfin.out]; rfl) (by rw [Hfin.out]; rfl), HB.out⟩
    · obtain rfl : j = 3 := by omega
      have hT2 : Tab w2 := (hT1.drewN nq).self hb2
      have HN2 : Hid (nxt (cc :: r) = (if psz (acc q (r.take 3)) = 4 then (acc q (r.take 3), 4) else (0, 0))) := by
        exact HN.out.trans (if_pos hall)
      by_cases hq : psz (acc q (r.take 3)) = 4
      · have Hq := Lib.hid hq
        clear hq
        have Hfin : Hid (nxt (cc :: r) = (acc q (r.take 3), 4)) := by
          show _ = _
          rw [HN2.out, if_pos Hq.out]
        have ht : ((4 : Int) != 4) = false := rfl
        go_wp2_with fail
        refine (pointSize_any _ _ hT2).mono ?_
        rintro e w3 ⟨rfl, hb3⟩
        rw [Hq.out]
        go_wp2
        go_ret2
        exact ⟨ret_two (by rw [Hfin.out]) (by rw [Hfin.out]; rfl), HB.out.trans (hb3.mono HB.out.size)⟩
      · have ht : (((psz (acc q (r.take 3)) : Nat) : Int) != 4) = true := by
          rw [bne_iff_ne]; omega
        have Hfin : Hid (nxt (cc :: r) = (0, 0)) := by
          show _ = _
          rw [HN2.out, if_neg hq]
        clear hq
        go_wp2_with fail
        refine (pointSize_any _ _ hT2).mono ?_
        rintro e w3 ⟨rfl, hb3⟩
        go_wp2
        go_ret2
        exact ⟨ret_two (by rw [Hfin.out]; rfl) (by rw [Hfin.out]; rfl), HB.out.trans (hb3.mono HB.out.size)⟩


theorem nxt_no {c : UInt8} {r : List UInt8} (h : lsz c.toNat = 0 ∨ r.length < lsz c.toNat - 1) : nxt (c :: r) = (0, 0) := by
  show (if _ then _ else _) = _
  exact if_pos h
theorem drop_cons (s : ByteArray) (k : Nat) (hk : k < s.size) : s.data.toList.drop k = s[k] :: s.data.toList.drop (k + 1) := by
  have hk' : k < s.data.toList.length := by rw [Array.length_toList]; exact hk
  rw [List.drop_eq_getElem_cons hk']
  rfl
/-- Next: the point that begins at whatever place, and how many bytes it has. -/
theorem Next_any (s : ByteArray) (hs : s.size ≤ maxLen) (at_ : Int) (w : World) (hT : Tab w) :
    Calls Tryd.prog 92 #[.string s, .int .i64 at_] w fun e w' => e = .returned (.tuple #[.int .i64 (nxtAt s at_).1, .int .i64 (nxtAt s at_).2]) ∧ Below w.heap.size w w' := by
  by_cases h : at_ < 0 ∨ (s.size : Int) ≤ at_
  · have e : nxtAt s at_ = (0, 0) := by unfold nxtAt; rw [if_neg (by omega)]
    rw [e]
    exact Next_out s hs at_ h w
  · obtain ⟨k, rfl⟩ := Int.eq_ofNat_of_zero_le (show 0 ≤ at_ by omega)
    have hk : k < s.size := by omega
    have e : nxtAt s k = nxt (s[k] :: s.data.toList.drop (k + 1)) := by
      unfold nxtAt; rw [if_pos (by omega), Int.toNat_natCast, drop_cons s k hk]
    have hlen : (s.data.toList.drop (k + 1)).length = s.size - (k + 1) := by rw [List.length_drop, Array.length_toList]; rfl
    rw [e]
    by_cases h0 : lsz s[k].toNat = 0
    · have e0 : nxt (s[k] :: s.data.toList.drop (k + 1)) = (0, 0) := nxt_no (.inl h0)
      rw [e0]
      exact Next_nolead s hs k hk h0 w hT
    · have h4 := lsz_le s[k].toNat
      by_cases hsh : s.size < lsz s[k].toNat + k
      · have e0 : nxt (s[k] :: s.data.toList.drop (k + 1)) = (0, 0) := nxt_no (.inr (by rw [hlen]; omega))
        rw [e0]
        exact Next_short s hs k _ hk rfl (by omega) h4 hsh w hT
      · have hc : lsz s[k].toNat = 1 ∨ lsz s[k].toNat = 2 ∨ lsz s[k].toNat = 3 ∨ lsz s[k].toNat = 4 := by omega
        rcases hc with hc | hc | hc | hc
        · exact Next_one s hs k hk hc (by omega) _ rfl w hT
        · exact Next_two s hs k hk hc (by omega) _ rfl w hT
        · exact Next_three s hs k hk hc (by omega) _ rfl w hT
        · exact Next_four s hs k hk hc (by omega) _ rfl w hT
end Go.Proofs.YteocenjneoclbaaDoor.utf
namespace Go.Proofs.YteocenjneoclbaaDoor.utf
open Go.RowKit

set_option maxRecDepth 100000 in
set_option maxHeartbeats 400000 in
theorem refEncode_no (p : Int) (h : isPt p = false) (w : World) :
    Calls Tryd.prog 93 #[.int .i64 p] w fun e w' => e = .returned (.tuple #[.string ⟨(enc p).toArray⟩, .bool false]) ∧ Below w.heap.size w w' := by
  have he : (⟨(enc p).toArray⟩ : ByteArray) = ⟨#[]⟩ := by simp [enc, h]
  rw [he]
  have hc : p < 0 ∨ (0 ≤ p ∧ 1114111 < p) ∨ (55296 ≤ p ∧ p ≤ 57343) := by
    rcases Decidable.em (p < 0 ∨ (0 ≤ p ∧ 1114111 < p) ∨ (55296 ≤ p ∧ p ≤ 57343)) with e | e
    · exact e
    · have := (isPt_iff p).2 (by omega)
      rw [h] at this; cases this
  clear h he
  rcases hc with hc | ⟨hc, hc'⟩ | ⟨hc, hc'⟩
  · go_enter Tryd.func93, Tryd.ntmps93
    go_wp2
    go_ret2
    exact ⟨rfl, Below.refl _ _⟩
  · go_enter Tryd.func93, Tryd.ntmps93
    go_wp2
    go_ret2
    exact ⟨rfl, Below.refl _ _⟩
  · have h0 : 0 ≤ p := by omega
    have h1 : p ≤ 1114111 := by omega
    go_enter Tryd.func93, Tryd.ntmps93
    go_wp2
    go_ret2
    exact ⟨rfl, Below.refl _ _⟩

theorem rfin1 (p : Nat) (r0 : p ≤ 127) : strOfNums [(p : Int)] = ⟨(enc (p : Int)).toArray⟩ := by
  apply nums_eq
  rw [enc_of p ((isPt_iff _).2 (by omega)), encN, if_pos (by omega)]
  simp only [List.map_cons, List.map_nil]
  rw [Int.toNat_natCast]
set_option maxRecDepth 100000 in
set_option maxRecDepth 100000 in
set_option maxHeartbeats 1000000 in
theorem refEncode_one (p : Nat) (r0 : p ≤ 127) (w : World) :
    Calls Tryd.prog 93 #[.int .i64 p] w fun e w' => e = .returned (.tuple #[.string ⟨(enc p).toArray⟩, .bool true]) ∧ Below w.heap.size w w' := by
  have a0 : 0 ≤ (p : Int) := by omega
  have a1 : (p : Int) ≤ 1114111 := by omega
  have a2 : (p : Int) < 55296 := by omega
  have a3 : (p : Int) < 128 := by omega
  have hcv : ∀ a : Int, (convert 57 9 (.slice (some ⟨w.heap.size, 0, none⟩) 1 1)).run Tryd.prog (w.alloc (.cells #[.int .u8 a] 5)) = .ok (.string (strOfNums [a])) (w.alloc (.cells #[.int .u8 a] 5)) := fun a => conv_new w [a] 1 1 rfl
  have Hf := Lib.hid (rfin1 p r0)
  clear r0
  generalize (p : Int) = q at *
  go_enter Tryd.func93, Tryd.ntmps93
  go_wp2
  go_ret2
  exact ⟨ret_strb Hf.out, (Below.refl _ _).alloc (Nat.le_refl _) _⟩
theorem rfin2 (p : Nat) (r0 : 128 ≤ p) (r1 : p ≤ 2047) : strOfNums [192 + (p : Int) / 64, 128 + (p : Int) % 64] = ⟨(enc (p : Int)).toArray⟩ := by
  apply nums_eq
  rw [enc_of p ((isPt_iff _).2 (by omega)), encN, if_neg (by omega), if_pos (by omega)]
  simp only [List.map_cons, List.map_nil]
  rw [show (192 + (p : Int) / 64).toNat = 192 + p / 64 by omega, show (128 + (p : Int) % 64).toNat = 128 + p % 64 by omega]
set_option maxRecDepth 100000 in
set_option maxRecDepth 100000 in
set_option maxHeartbeats 1000000 in
theorem refEncode_two (p : Nat) (r0 : 128 ≤ p) (r1 : p ≤ 2047) (w : World) :
    Calls Tryd.prog 93 #[.int .i64 p] w fun e w' => e = .returned (.tuple #[.string ⟨(enc p).toArray⟩, .bool true]) ∧ Below w.heap.size w w' := by
  have a0 : 0 ≤ (p : Int) := by omega
  have a1 : (p : Int) ≤ 1114111 := by omega
  have a2 : (p : Int) < 55296 := by omega
  have a3 : 128 ≤ (p : Int) := by omega
  have a4 : (p : Int) < 2048 := by omega
  have hcv : ∀ a b : Int, (convert 57 9 (.slice (some ⟨w.heap.size, 0, none⟩) 2 2)).run Tryd.prog (w.alloc (.cells #[.int .u8 a, .int .u8 b] 5)) = .ok (.string (strOfNums [a, b])) (w.alloc (.cells #[.int .u8 a, .int .u8 b] 5)) := fun a b => conv_new w [a, b] 2 2 rfl
  have Hf := Lib.hid (rfin2 p r0 r1)
  clear r0 r1
  generalize (p : Int) = q at *
  go_enter Tryd.func93, Tryd.ntmps93
  go_wp2
  go_ret2
  exact ⟨ret_strb Hf.out, (Below.refl _ _).alloc (Nat.le_refl _) _⟩
theorem rfin3 (p : Nat) (r0 : 2048 ≤ p) (r1 : p ≤ 65535) (r2 : p < 55296 ∨ 57343 < p) : strOfNums [224 + (p : Int) / 4096, 128 + (p : Int) / 64 % 64, 128 + (p : Int) % 64] = ⟨(enc (p : Int)).toArray⟩ := by
  apply nums_eq
  rw [enc_of p ((isPt_iff _).2 (by omega)), encN, if_neg (by omega), if_neg (by omega), if_pos (by omega)]
  simp only [List.map_cons, List.map_nil]
  rw [show (224 + (p : Int) / 4096).toNat = 224 + p / 4096 by omega, show (128 + (p : Int) / 64 % 64).toNat = 128 + p / 64 % 64 by omega, show (128 + (p : Int) % 64).toNat = 128 + p % 64 by omega]
set_option maxRecDepth 100000 in
set_option maxRecDepth 100000 in
set_option maxHeartbeats 1000000 in
theorem refEncode_three (p : Nat) (r0 : 2048 ≤ p) (r1 : p ≤ 65535) (r2 : p < 55296 ∨ 57343 < p) (w : World) :
    Calls Tryd.prog 93 #[.int .i64 p] w fun e w' => e = .returned (.tuple #[.string ⟨(enc p).toArray⟩, .bool true]) ∧ Below w.heap.size w w' := by
  have a0 : 0 ≤ (p : Int) := by omega
  have a1 : (p : Int) ≤ 1114111 := by omega
  have a2 : 2048 ≤ (p : Int) := by omega
  have a3 : (p : Int) < 65536 := by omega
  rcases r2 with r3 | r3
  · have r2 : p < 55296 ∨ 57343 < p := .inl r3
    have a4 : (p : Int) < 55296 := by omega
    clear r3
    have hcv : ∀ a b c : Int, (convert 57 9 (.slice (some ⟨w.heap.size, 0, none⟩) 3 3)).run Tryd.prog (w.alloc (.cells #[.int .u8 a, .int .u8 b, .int .u8 c] 5)) = .ok (.string (strOfNums [a, b, c])) (w.alloc (.cells #[.int .u8 a, .int .u8 b, .int .u8 c] 5)) := fun a b c => conv_new w [a, b, c] 3 3 rfl
    have Hf := Lib.hid (rfin3 p r0 r1 r2)
    clear r0 r1 r2
    generalize (p : Int) = q at *
    go_enter Tryd.func93, Tryd.ntmps93
    go_wp2
    go_ret2
    exact ⟨ret_strb Hf.out, (Below.refl _ _).alloc (Nat.le_refl _) _⟩
  · have r2 : p < 55296 ∨ 57343 < p := .inr r3
    have a4 : 57343 < (p : Int) := by omega
    clear r3
    have hcv : ∀ a b c : Int, (convert 57 9 (.slice (some ⟨w.heap.size, 0, none⟩) 3 3)).run Tryd.prog (w.alloc (.cells #[.int .u8 a, .int .u8 b, .int .u8 c] 5)) = .ok (.string (strOfNums [a, b, c])) (w.alloc (.cells #[.int .u8 a, .int .u8 b, .int .u8 c] 5)) := fun a b c => conv_new w [a, b, c] 3 3 rfl
    have Hf := Lib.hid (rfin3 p r0 r1 r2)
    clear r0 r1 r2
    generalize (p : Int) = q at *
    go_enter Tryd.func93, Tryd.ntmps93
    go_wp2
    go_ret2
    exact ⟨ret_strb Hf.out, (Below.refl _ _).alloc (Nat.le_refl _) _⟩
theorem rfin4 (p : Nat) (r0 : 65536 ≤ p) (r1 : p ≤ 1114111) : strOfNums [240 + (p : Int) / 262144, 128 + (p : Int) / 4096 % 64, 128 + (p : Int) / 64 % 64, 128 + (p : Int) % 64] = ⟨(enc (p : Int)).toArray⟩ := by
  apply nums_eq
  rw [enc_of p ((isPt_iff _).2 (by omega)), encN, if_neg (by omega), if_neg (by omega), if_neg (by omega)]
  simp only [List.map_cons, List.map_nil]
  rw [show (240 + (p : Int) / 262144).toNat = 240 + p / 262144 by omega, show (128 + (p : Int) / 4096 % 64).toNat = 128 + p / 4096 % 64 by omega, show (128 + (p : Int) / 64 % 64).toNat = 128 + p / 64 % 64 by omega, show (128 + (p : Int) % 64).toNat = 128 + p % 64 by omega]
set_option maxRecDepth 100000 in
set_option maxRecDepth 100000 in
set_option maxHeartbeats 1000000 in
theorem refEncode_four (p : Nat) (r0 : 65536 ≤ p) (r1 : p ≤ 1114111) (w : World) :
    Calls Tryd.prog 93 #[.int .i64 p] w fun e w' => e = .returned (.tuple #[.string ⟨(enc p).toArray⟩, .bool true]) ∧ Below w.heap.size w w' := by
  have a0 : 0 ≤ (p : Int) := by omega
  have a1 : (p : Int) ≤ 1114111 := by omega
  have a2 : 57343 < (p : Int) := by omega
  have a3 : 65536 ≤ (p : Int) := by omega
  have hcv : ∀ a b c d : Int, (convert 57 9 (.slice (some ⟨w.heap.size, 0, none⟩) 4 4)).run Tryd.prog (w.alloc (.cells #[.int .u8 a, .int .u8 b, .int .u8 c, .int .u8 d] 5)) = .ok (.string (strOfNums [a, b, c, d])) (w.alloc (.cells #[.int .u8 a, .int .u8 b, .int .u8 c, .int .u8 d] 5)) := fun a b c d => conv_new w [a, b, c, d] 4 4 rfl
  have Hf := Lib.hid (rfin4 p r0 r1)
  clear r0 r1
  generalize (p : Int) = q at *
  go_enter Tryd.func93, Tryd.ntmps93
  go_wp2
  go_ret2
  exact ⟨ret_strb Hf.out, (Below.refl _ _).alloc (Nat.le_refl _) _⟩

/-- The document's Encode: the same. -/
theorem refEncode_any (p : Int) (w : World) :
    Calls Tryd.prog 93 #[.int .i64 p] w fun e w' => e = .returned (.tuple #[.string ⟨(enc p).toArray⟩, .bool (isPt p)]) ∧ Below w.heap.size w w' := by
  cases h : isPt p
  · exact refEncode_no p h w
  · obtain ⟨a, b, c⟩ := (isPt_iff p).1 h
    obtain ⟨q, rfl⟩ := Int.eq_ofNat_of_zero_le a
    by_cases h1 : q ≤ 127
    · exact refEncode_one q h1 w
    · by_cases h2 : q ≤ 2047
      · exact refEncode_two q (by omega) h2 w
      · by_cases h3 : q ≤ 65535
        · exact refEncode_three q (by omega) h3 (by omega) w
        · exact refEncode_four q (by omega) (by omega) w
end Go.Proofs.YteocenjneoclbaaDoor.utf
