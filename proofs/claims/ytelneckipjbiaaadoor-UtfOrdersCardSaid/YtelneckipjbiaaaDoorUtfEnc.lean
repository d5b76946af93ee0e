/- Layer 1: the contract of Encode: a point's bytes. -/
import Derived.Test.YtelneckipjbiaaaDoorUtfLeaf
import Derived.Laws.BytesArg
namespace Go.Proofs.YtelneckipjbiaaaDoor.utf
open Go.RowKit

theorem below_of_alloc {w w1 : World} (h : Below w.heap.size w w1) (o : Obj) : Below w.heap.size w (w1.alloc o) := h.alloc h.size o
theorem conv_new (w1 : World) (xs : List Int) (n c : Nat) (hn : xs.length = n) : (convert 47 9 (.slice (some ⟨w1.heap.size, 0, none⟩) n c)).run Tryd.prog (w1.alloc (.cells (xs.map (Value.int .u8)).toArray 5)) = .ok (.string (strOfNums xs)) (w1.alloc (.cells (xs.map (Value.int .u8)).toArray 5)) :=
  run_convert_bytes_arg (P := Tryd.prog) _ 47 5 Tryd.underlying47 Tryd.underlying5 w1.heap.size 0 n c xs hn (fun i hi => by
    rw [cell_of_row _ w1.heap.size (0 + i) _ 5 (0, 0) (heap_alloc_new w1 _)]
    simp [List.getElem?_eq_getElem (show i < xs.length by omega), List.getD]) 9 Tryd.underlying9

theorem ret_strb {a b : ByteArray} {c : Bool} (h : a = b) : Ending.returned (.tuple #[.string a, .bool c]) = .returned (.tuple #[.string b, .bool c]) := by rw [h]

theorem andNot6 (x : Int) (h : 0 ≤ x) : bits .andNot .u8 (x % 256) 192 = x % 64 := by
  obtain ⟨n, rfl⟩ := Int.eq_ofNat_of_zero_le h
  have e := u8_andNot_nat (n % 256) 192 (by omega) (by omega)
  have f : n % 256 &&& (255 - 192) = n % 64 := by
    rw [show 255 - 192 = 63 from rfl, nat_mask6]; omega
  rw [f] at e
  have g : ((n : Int) % 256) = ((n % 256 : Nat) : Int) := by omega
  rw [g]
  refine Eq.trans e ?_
  omega
theorem or7 (x : Int) (h : 0 ≤ x) (h' : x < 64) : bits .or .u8 128 x = 128 + x := by
  obtain ⟨n, rfl⟩ := Int.eq_ofNat_of_zero_le h
  have e := u8_or_nat 128 n (by omega) (by omega)
  rw [nat_join 7 128 n (by omega) (by omega)] at e
  refine Eq.trans e ?_
  omega
theorem low7 (x : Int) (h : 0 ≤ x) : bits .or .u8 128 (bits .andNot .u8 (x % 256) 192) = 128 + x % 64 := by
  rw [andNot6 x h, or7 _ (by omega) (by omega)]
theorem orHead (k m : Nat) (x : Int) (h : 0 ≤ x) (hm : m % 2 ^ k = 0) (h' : x < (2 ^ k : Nat)) (hx : x < 256) (hmm : m < 256) : bits .or .u8 (m : Int) x = m + x := by
  obtain ⟨n, rfl⟩ := Int.eq_ofNat_of_zero_le h
  have e := u8_or_nat m n hmm (by omega)
  rw [nat_join k m n hm (by omega)] at e
  rw [e]
  omega
theorem nums_eq (xs : List Int) (l : List UInt8) (h : (xs.map fun n => UInt8.ofNat n.toNat) = l) : strOfNums xs = ⟨l.toArray⟩ := by
  rw [← h]; rfl

theorem mk1 (w : World) : (Instr.makeSlice 47 (.int .i64 1) (.int .i64 1)).run Tryd.prog w = .ok (.slice (some ⟨w.heap.size, 0, none⟩) 1 1) (w.alloc (.cells #[.int .u8 0] 5)) := by kernel_rfl

theorem mk2 (w : World) : (Instr.makeSlice 47 (.int .i64 2) (.int .i64 2)).run Tryd.prog w = .ok (.slice (some ⟨w.heap.size, 0, none⟩) 2 2) (w.alloc (.cells #[.int .u8 0, .int .u8 0] 5)) := by kernel_rfl

theorem mk3 (w : World) : (Instr.makeSlice 47 (.int .i64 3) (.int .i64 3)).run Tryd.prog w = .ok (.slice (some ⟨w.heap.size, 0, none⟩) 3 3) (w.alloc (.cells #[.int .u8 0, .int .u8 0, .int .u8 0] 5)) := by kernel_rfl

theorem mk4 (w : World) : (Instr.makeSlice 47 (.int .i64 4) (.int .i64 4)).run Tryd.prog w = .ok (.slice (some ⟨w.heap.size, 0, none⟩) 4 4) (w.alloc (.cells #[.int .u8 0, .int .u8 0, .int .u8 0, .int .u8 0] 5)) := by kernel_rfl

theorem psz_1 (p : Nat) (h2 : p ≤ 127) : ((psz (p : Int) : Nat) : Int) = 1 := by
  rw [psz_hit (k := 0) (by omega) (by unfold missP; omega) (by omega)]; rfl
theorem fin1 (p : Nat) (h2 : p ≤ 127) : strOfNums [bits .or .u8 0 (p : Int)] = ⟨(enc p).toArray⟩ := by
  have e := u8_or_nat 0 p (by omega) (by omega)
  rw [Nat.zero_or] at e
  have e' : bits .or .u8 0 (p : Int) = p := e
  rw [e']
  apply nums_eq
  rw [enc_of p ((isPt_iff _).2 (by omega)), encN, if_pos (by omega)]
  simp
set_option maxHeartbeats 1000000 in
theorem Encode_one (p : Nat) (h2 : p ≤ 127) (w : World) (hT : Tab w) :
    Calls Tryd.prog 14 #[.int .i64 p] w fun e w' => e = .returned (.tuple #[.string ⟨(enc p).toArray⟩, .bool true]) ∧ Below w.heap.size w w' := by
  have hz := psz_1 p h2
  have Hf := Lib.hid (fin1 p h2)
  have Hz := Lib.hid hz
  clear hz
  have hmk := mk1
  go_enter Tryd.func14, Tryd.ntmps14
  go_wp2_with fail
  refine (pointSize_any _ _ hT).mono ?_
  rintro e w1 ⟨rfl, hb1⟩
  rw [Hz.out]
  have hT1 := hT.self hb1
  have c4 := hT1.cell 1
  simp only [show leadCells[1]? = some (.int .u8 0) from rfl] at c4
  have c4' : ∀ o, (w1.alloc o).cell? ⟨0, 1, none⟩ = some (.int .u8 0) := fun o => (World.cell?_alloc_lt w1 o ⟨0, 1, none⟩ hT1.pos).trans c4
  clear c4
  have hcv : ∀ a : Int, (convert 47 9 (.slice (some ⟨w1.heap.size, 0, none⟩) 1 1)).run Tryd.prog (w1.alloc (.cells #[.int .u8 a] 5)) = .ok (.string (strOfNums [a])) (w1.alloc (.cells #[.int .u8 a] 5)) := fun a => conv_new w1 [a] 1 1 rfl
  go_wp2
  refine wp_loop_rounds 1 ?_
  rw [rounds_succ]
  go_wp2
  go_ret2
  exact ⟨ret_strb Hf.out, hb1.alloc hb1.size _⟩

theorem psz_2 (p : Nat) (h1 : 128 ≤ p) (h2 : p ≤ 2047) : ((psz (p : Int) : Nat) : Int) = 2 := by
  rw [psz_hit (k := 1) (by omega) (by unfold missP; omega) (by omega)]; rfl
theorem fin2 (p : Nat) (h1 : 128 ≤ p) (h2 : p ≤ 2047) : strOfNums [192 + (p : Int) / 64, bits .or .u8 128 (bits .andNot .u8 ((p : Int) % 256) 192)] = ⟨(enc p).toArray⟩ := by
  rw [low7 _ (by omega)]
  apply nums_eq
  rw [enc_of p ((isPt_iff _).2 (by omega)), encN, if_neg (by omega), if_pos (by omega)]
  simp only [List.map_cons, List.map_nil]
  rw [show (192 + (p : Int) / 64).toNat = 192 + p / 64 by omega, show (128 + (p : Int) % 64).toNat = 128 + p % 64 by omega]
set_option maxHeartbeats 1000000 in
theorem Encode_two (p : Nat) (h1 : 128 ≤ p) (h2 : p ≤ 2047) (w : World) (hT : Tab w) :
    Calls Tryd.prog 14 #[.int .i64 p] w fun e w' => e = .returned (.tuple #[.string ⟨(enc p).toArray⟩, .bool true]) ∧ Below w.heap.size w w' := by
  have hz := psz_2 p h1 h2
  have Hf := Lib.hid (fin2 p h1 h2)
  have Hz := Lib.hid hz
  clear hz
  have hmk := mk2
  go_enter Tryd.func14, Tryd.ntmps14
  go_wp2_with fail
  refine (pointSize_any _ _ hT).mono ?_
  rintro e w1 ⟨rfl, hb1⟩
  rw [Hz.out]
  have hT1 := hT.self hb1
  have c4 := hT1.cell 4
  simp only [show leadCells[4]? = some (.int .u8 192) from rfl] at c4
  have c4' : ∀ o, (w1.alloc o).cell? ⟨0, 4, none⟩ = some (.int .u8 192) := fun o => (World.cell?_alloc_lt w1 o ⟨0, 4, none⟩ hT1.pos).trans c4
  clear c4
  have hcv : ∀ a b : Int, (convert 47 9 (.slice (some ⟨w1.heap.size, 0, none⟩) 2 2)).run Tryd.prog (w1.alloc (.cells #[.int .u8 a, .int .u8 b] 5)) = .ok (.string (strOfNums [a, b])) (w1.alloc (.cells #[.int .u8 a, .int .u8 b] 5)) := fun a b => conv_new w1 [a, b] 2 2 rfl
  go_wp2
  refine wp_loop_rounds 2 ?_
  rw [rounds_succ]
  go_wp2
  rw [rounds_succ]
  go_wp2
  go_ret2
  exact ⟨ret_strb Hf.out, hb1.alloc hb1.size _⟩

theorem psz_3 (p : Nat) (h1 : 2048 ≤ p) (h2 : p ≤ 65535) (hs : p < 55296 ∨ 57343 < p) : ((psz (p : Int) : Nat) : Int) = 3 := by
  rw [psz_hit (k := 2) (by omega) (by unfold missP; omega) (by omega)]; rfl
theorem fin3 (p : Nat) (h1 : 2048 ≤ p) (h2 : p ≤ 65535) (hs : p < 55296 ∨ 57343 < p) : strOfNums [224 + (p : Int) / 64 / 64, bits .or .u8 128 (bits .andNot .u8 ((p : Int) / 64 % 256) 192), bits .or .u8 128 (bits .andNot .u8 ((p : Int) % 256) 192)] = ⟨(enc p).toArray⟩ := by
  rw [low7 _ (by omega), low7 _ (by omega)]
  apply nums_eq
  rw [enc_of p ((isPt_iff _).2 (by omega)), encN, if_neg (by omega), if_neg (by omega), if_pos (by omega)]
  simp only [List.map_cons, List.map_nil]
  rw [show (224 + (p : Int) / 64 / 64).toNat = 224 + p / 4096 by omega, show (128 + (p : Int) / 64 % 64).toNat = 128 + p / 64 % 64 by omega, show (128 + (p : Int) % 64).toNat = 128 + p % 64 by omega]
set_option maxHeartbeats 1000000 in
theorem Encode_three (p : Nat) (h1 : 2048 ≤ p) (h2 : p ≤ 65535) (hs : p < 55296 ∨ 57343 < p) (w : World) (hT : Tab w) :
    Calls Tryd.prog 14 #[.int .i64 p] w fun e w' => e = .returned (.tuple #[.string ⟨(enc p).toArray⟩, .bool true]) ∧ Below w.heap.size w w' := by
  have hz := psz_3 p h1 h2 hs
  have Hf := Lib.hid (fin3 p h1 h2 hs)
  have Hz := Lib.hid hz
  clear hz hs
  have hmk := mk3
  go_enter Tryd.func14, Tryd.ntmps14
  go_wp2_with fail
  refine (pointSize_any _ _ hT).mono ?_
  rintro e w1 ⟨rfl, hb1⟩
  rw [Hz.out]
  have hT1 := hT.self hb1
  have c4 := hT1.cell 7
  simp only [show leadCells[7]? = some (.int .u8 224) from rfl] at c4
  have c4' : ∀ o, (w1.alloc o).cell? ⟨0, 7, none⟩ = some (.int .u8 224) := fun o => (World.cell?_alloc_lt w1 o ⟨0, 7, none⟩ hT1.pos).trans c4
  clear c4
  have hcv : ∀ a b c : Int, (convert 47 9 (.slice (some ⟨w1.heap.size, 0, none⟩) 3 3)).run Tryd.prog (w1.alloc (.cells #[.int .u8 a, .int .u8 b, .int .u8 c] 5)) = .ok (.string (strOfNums [a, b, c])) (w1.alloc (.cells #[.int .u8 a, .int .u8 b, .int .u8 c] 5)) := fun a b c => conv_new w1 [a, b, c] 3 3 rfl
  go_wp2
  refine wp_loop_rounds 3 ?_
  rw [rounds_succ]
  go_wp2
  rw [rounds_succ]
  go_wp2
  rw [rounds_succ]
  go_wp2
  go_ret2
  exact ⟨ret_strb Hf.out, hb1.alloc hb1.size _⟩

theorem psz_4 (p : Nat) (h1 : 65536 ≤ p) (h2 : p ≤ 1114111) : ((psz (p : Int) : Nat) : Int) = 4 := by
  rw [psz_hit (k := 3) (by omega) (by unfold missP; omega) (by omega)]; rfl
theorem fin4 (p : Nat) (h1 : 65536 ≤ p) (h2 : p ≤ 1114111) : strOfNums [240 + (p : Int) / 64 / 64 / 64, bits .or .u8 128 (bits .andNot .u8 ((p : Int) / 64 / 64 % 256) 192), bits .or .u8 128 (bits .andNot .u8 ((p : Int) / 64 % 256) 192), bits .or .u8 128 (bits .andNot .u8 ((p : Int) % 256) 192)] = ⟨(enc p).toArray⟩ := by
  rw [low7 _ (by omega), low7 _ (by omega), low7 _ (by omega)]
  apply nums_eq
  rw [enc_of p ((isPt_iff _).2 (by omega)), encN, if_neg (by omega), if_neg (by omega), if_neg (by omega)]
  simp only [List.map_cons, List.map_nil]
  rw [show (240 + (p : Int) / 64 / 64 / 64).toNat = 240 + p / 262144 by omega, show (128 + (p : Int) / 64 / 64 % 64).toNat = 128 + p / 4096 % 64 by omega, show (128 + (p : Int) / 64 % 64).toNat = 128 + p / 64 % 64 by omega, show (128 + (p : Int) % 64).toNat = 128 + p % 64 by omega]
set_option maxHeartbeats 1000000 in
theorem Encode_four (p : Nat) (h1 : 65536 ≤ p) (h2 : p ≤ 1114111) (w : World) (hT : Tab w) :
    Calls Tryd.prog 14 #[.int .i64 p] w fun e w' => e = .returned (.tuple #[.string ⟨(enc p).toArray⟩, .bool true]) ∧ Below w.heap.size w w' := by
  have hz := psz_4 p h1 h2
  have Hf := Lib.hid (fin4 p h1 h2)
  have Hz := Lib.hid hz
  clear hz
  have hmk := mk4
  go_enter Tryd.func14, Tryd.ntmps14
  go_wp2_with fail
  refine (pointSize_any _ _ hT).mono ?_
  rintro e w1 ⟨rfl, hb1⟩
  rw [Hz.out]
  have hT1 := hT.self hb1
  have c4 := hT1.cell 10
  simp only [show leadCells[10]? = some (.int .u8 240) from rfl] at c4
  have c4' : ∀ o, (w1.alloc o).cell? ⟨0, 10, none⟩ = some (.int .u8 240) := fun o => (World.cell?_alloc_lt w1 o ⟨0, 10, none⟩ hT1.pos).trans c4
  clear c4
  have hcv : ∀ a b c d : Int, (convert 47 9 (.slice (some ⟨w1.heap.size, 0, none⟩) 4 4)).run Tryd.prog (w1.alloc (.cells #[.int .u8 a, .int .u8 b, .int .u8 c, .int .u8 d] 5)) = .ok (.string (strOfNums [a, b, c, d])) (w1.alloc (.cells #[.int .u8 a, .int .u8 b, .int .u8 c, .int .u8 d] 5)) := fun a b c d => conv_new w1 [a, b, c, d] 4 4 rfl
  go_wp2
  refine wp_loop_rounds 4 ?_
  rw [rounds_succ]
  go_wp2
  rw [rounds_succ]
  go_wp2
  rw [rounds_succ]
  go_wp2
  rw [rounds_succ]
  go_wp2
  go_ret2
  exact ⟨ret_strb Hf.out, hb1.alloc hb1.size _⟩

set_option maxHeartbeats 400000 in
theorem Encode_no (p : Int) (h : isPt p = false) (w : World) (hT : Tab w) :
    Calls Tryd.prog 14 #[.int .i64 p] w fun e w' => e = .returned (.tuple #[.string ⟨(enc p).toArray⟩, .bool false]) ∧ Below w.heap.size w w' := by
  have hz : ((psz p : Nat) : Int) = 0 := by rw [(psz_zero p).2 h]; rfl
  have he : (⟨(enc p).toArray⟩ : ByteArray) = ⟨#[]⟩ := by simp [enc, h]
  rw [he]
  have Hz := Lib.hid hz
  clear hz he
  go_enter Tryd.func14, Tryd.ntmps14
  go_wp2_with fail
  refine (pointSize_any _ _ hT).mono ?_
  rintro e w1 ⟨rfl, hb1⟩
  rw [Hz.out]
  go_wp2
  go_ret2
  exact ⟨rfl, hb1⟩

/-- Encode: the bytes of whatever number, and whether it is a point. -/
theorem Encode_any (p : Int) (w : World) (hT : Tab w) :
    Calls Tryd.prog 14 #[.int .i64 p] w fun e w' => e = .returned (.tuple #[.string ⟨(enc p).toArray⟩, .bool (isPt p)]) ∧ Below w.heap.size w w' := by
  cases h : isPt p
  · exact Encode_no p h w hT
  · obtain ⟨a, b, c⟩ := (isPt_iff p).1 h
    obtain ⟨q, rfl⟩ := Int.eq_ofNat_of_zero_le a
    by_cases h1 : q ≤ 127
    · exact Encode_one q h1 w hT
    · by_cases h2 : q ≤ 2047
      · exact Encode_two q (by omega) h2 w hT
      · by_cases h3 : q ≤ 65535
        · exact Encode_three q (by omega) h3 (by omega) w hT
        · exact Encode_four q (by omega) (by omega) w hT
end Go.Proofs.YtelneckipjbiaaaDoor.utf
